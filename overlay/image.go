package overlay

import (
	"strconv"
	"strings"
)

const (
	maxName     = 8
	maxFiles    = 8
	maxClusters = 30
	maxData     = 60
	maxFile     = 1000
	maxStore    = 4000

	clusterBytes = 8
)

// How an image's file begins, and the two entries that name no data cluster.
const (
	imageMark = "OV\x01"
	openEntry = 0
	zeroEntry = 255
)

// kind is what a cluster is; open comes first so that a new cluster is open.
type kind int

const (
	openKind kind = iota
	zeroKind
	dataKind
)

// block is the bytes of one cluster.
type block [clusterBytes]byte

type cluster struct {
	kind kind
	data block
}

// image is what a file of the image's form says. Of the lost data clusters only the number is kept, since no image is written with them.
type image struct {
	backing  string
	clusters run[cluster]
	lost     int
}

func isName(name string) bool {
	if len(name) < 1 || len(name) > maxName {
		return false
	}
	for i := range len(name) {
		if c := name[i]; (c < 'a' || c > 'z') && (c < '0' || c > '9') {
			return false
		}
	}
	return true
}

// reader takes a file apart from its front. It remembers that it was asked for more than there was, so that this can be asked once, at the end.
type reader struct {
	rest  string
	short bool
}

func (r *reader) text(many int) string {
	if many > len(r.rest) {
		r.rest, r.short = "", true
		return ""
	}
	text := r.rest[:many]
	r.rest = r.rest[many:]
	return text
}

func (r *reader) number() int {
	text := r.text(1)
	if text == "" {
		return 0
	}
	return int(text[0])
}

// parseImage answers errCorrupt for a file that is no image.
func parseImage(file string) (image, error) {
	r := reader{rest: file}
	mark := r.text(len(imageMark))
	size := r.number()
	backing := r.text(r.number())
	entries := r.text(size)
	many := r.number()
	data := r.text(many * clusterBytes)
	switch {
	case r.short || r.rest != "",
		mark != imageMark,
		size < 1 || size > maxClusters,
		backing != "" && !isName(backing),
		many > maxData:
		return image{}, errCorrupt
	}
	clusters, named, err := parseClusters(entries, data)
	if err != nil {
		return image{}, err
	}
	return image{backing, clusters, many - named}, nil
}

// parseClusters answers also how many data clusters the entries name.
func parseClusters(entries string, data string) (run[cluster], int, error) {
	var taken [maxData]bool
	named := 0
	many := len(data) / clusterBytes
	clusters := make(run[cluster], len(entries))
	for i := range clusters {
		switch entry := int(entries[i]); {
		case entry == openEntry:
		case entry == zeroEntry:
			clusters[i].kind = zeroKind
		case entry > many || taken[entry-1]:
			return nil, 0, errCorrupt
		default:
			taken[entry-1] = true
			named++
			clusters[i].kind = dataKind
			copy(clusters[i].data[:], data[(entry-1)*clusterBytes:])
		}
	}
	return clusters, named, nil
}

// file writes the image in its plain form.
func (m image) file() string {
	var entries, data []byte
	many := 0
	for _, c := range m.clusters {
		switch c.kind {
		case openKind:
			entries = append(entries, openEntry)
		case zeroKind:
			entries = append(entries, zeroEntry)
		case dataKind:
			many++
			entries = append(entries, byte(many))
			data = append(data, c.data[:]...)
		}
	}
	var b strings.Builder
	b.WriteString(imageMark)
	b.WriteByte(byte(len(m.clusters)))
	b.WriteByte(byte(len(m.backing)))
	b.WriteString(m.backing)
	b.Write(entries)
	b.WriteByte(byte(many))
	b.Write(data)
	return b.String()
}

// tally is Check's answer.
func (m image) tally() string {
	data, zero, open := 0, 0, 0
	for _, c := range m.clusters {
		switch c.kind {
		case dataKind:
			data++
		case zeroKind:
			zero++
		case openKind:
			open++
		}
	}
	return strconv.Itoa(data) + "," + strconv.Itoa(zero) + "," + strconv.Itoa(open) + "," + strconv.Itoa(m.lost)
}
