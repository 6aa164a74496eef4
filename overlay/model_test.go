package overlay_test

import (
	"maps"
	"math/rand/v2"
	"strconv"
	"strings"
	"testing"

	"overlay/overlay"
)

// model is a store as the document says it, byte by byte and without the program's own parts. All its images are sound.
type model struct {
	room   int
	images map[string]*modelImage
}

type modelImage struct {
	backing string
	kinds   string // a letter for each cluster: o open, z zero, d data
	own     []byte // 8 bytes for each cluster; they count only where it is data
	lost    string
}

func (m *modelImage) size() int { return 8 * len(m.kinds) }

func (m *modelImage) file() string {
	plain := picture(m.backing, m.kinds, string(m.own))
	at := 5 + len(m.backing) + len(m.kinds)
	many := int(plain[at]) + len(m.lost)/8
	return plain[:at] + string(rune(many)) + plain[at+1:] + m.lost
}

// at is one byte of a view.
func (w *model) at(name string, place int) byte {
	m := w.images[name]
	if m == nil || place >= m.size() {
		return 0
	}
	switch m.kinds[place/8] {
	case 'z':
		return 0
	case 'd':
		return m.own[place]
	default:
		return w.at(m.backing, place)
	}
}

func (w *model) view(name string) []byte {
	view := make([]byte, w.images[name].size())
	for i := range view {
		view[i] = w.at(name, i)
	}
	return view
}

func (w *model) total() int {
	total := 0
	for _, m := range w.images {
		total += len(m.file())
	}
	return total
}

// put has the clusters become these letters and their bytes those of the view, unless the room is too small.
func (w *model) put(name string, kinds []byte, view []byte) overlay.Errno {
	return w.putAll(map[string]*modelImage{name: {w.images[name].backing, string(kinds), view, ""}})
}

// putAll has all these images be there, or none, if the room is too small.
func (w *model) putAll(changed map[string]*modelImage) overlay.Errno {
	before := maps.Clone(w.images)
	maps.Copy(w.images, changed)
	if w.total() > w.room {
		w.images = before
		return overlay.ErrFull
	}
	return overlay.OK
}

func (w *model) outside(name string, from, many int) bool {
	return from < 0 || many < 0 || from+many > w.images[name].size()
}

func (w *model) write(name string, from int, data string) overlay.Errno {
	if w.images[name] == nil {
		return overlay.ErrNone
	}
	if w.outside(name, from, len(data)) {
		return overlay.ErrArg
	}
	if data == "" {
		return overlay.OK
	}
	kinds, view := []byte(w.images[name].kinds), w.view(name)
	for i := range len(data) {
		view[from+i] = data[i]
		kinds[(from+i)/8] = 'd'
	}
	return w.put(name, kinds, view)
}

// inside counts of each cluster the bytes that lie in the range.
func inside(clusters, from, many int) []int {
	counts := make([]int, clusters)
	for i := from; i < from+many; i++ {
		counts[i/8]++
	}
	return counts
}

func (w *model) zero(name string, from, many int) overlay.Errno {
	if w.images[name] == nil {
		return overlay.ErrNone
	}
	if w.outside(name, from, many) {
		return overlay.ErrArg
	}
	if many == 0 {
		return overlay.OK
	}
	kinds, view := []byte(w.images[name].kinds), w.view(name)
	for i := range many {
		view[from+i] = 0
	}
	for i, n := range inside(len(kinds), from, many) {
		if n == 8 {
			kinds[i] = 'z'
		} else if n > 0 {
			kinds[i] = 'd'
		}
	}
	return w.put(name, kinds, view)
}

func (w *model) discard(name string, from, many int) overlay.Errno {
	m := w.images[name]
	if m == nil {
		return overlay.ErrNone
	}
	if w.outside(name, from, many) {
		return overlay.ErrArg
	}
	kinds, some := []byte(m.kinds), false
	for i, n := range inside(len(kinds), from, many) {
		if n == 8 {
			some = true
			kinds[i] = 'o'
			if m.backing != "" {
				kinds[i] = 'z'
			}
		}
	}
	if !some {
		return overlay.OK
	}
	return w.put(name, kinds, m.own)
}

func (w *model) commit(name string) overlay.Errno {
	m := w.images[name]
	if m == nil {
		return overlay.ErrNone
	}
	if m.backing == "" {
		return overlay.ErrBelow
	}
	below := w.images[m.backing]
	kinds, own := []byte(below.kinds), []byte(string(below.own))
	for len(kinds) < len(m.kinds) {
		letter := byte('o')
		if below.backing != "" {
			letter = 'z'
		}
		kinds, own = append(kinds, letter), append(own, noughts(8)...)
	}
	for i := range len(m.kinds) {
		if m.kinds[i] != 'o' {
			kinds[i] = m.kinds[i]
			copy(own[8*i:8*i+8], m.own[8*i:])
		}
	}
	return w.putAll(map[string]*modelImage{
		m.backing: {below.backing, string(kinds), own, ""},
		name:      {m.backing, strings.Repeat("o", len(m.kinds)), m.own, ""},
	})
}

func (w *model) rebase(name, backing string) overlay.Errno {
	m := w.images[name]
	if m == nil || backing != "" && w.images[backing] == nil {
		return overlay.ErrNone
	}
	for below := backing; below != ""; below = w.images[below].backing {
		if below == name {
			return overlay.ErrBelow
		}
	}
	kinds, view := []byte(m.kinds), w.view(name)
	for i := range kinds {
		same, empty := true, true
		for b := 8 * i; b < 8*i+8; b++ {
			same = same && view[b] == w.at(backing, b)
			empty = empty && view[b] == 0
		}
		switch {
		case kinds[i] != 'o' || same:
		case empty:
			kinds[i] = 'z'
		default:
			kinds[i] = 'd'
		}
	}
	return w.putAll(map[string]*modelImage{name: {backing, string(kinds), view, ""}})
}

func (w *model) compare(name, other string) (int, overlay.Errno) {
	if w.images[name] == nil || w.images[other] == nil {
		return 0, overlay.ErrNone
	}
	for i := range 240 {
		if w.at(name, i) != w.at(other, i) {
			return i, overlay.OK
		}
	}
	return -1, overlay.OK
}

var modelNames = []string{"a", "b", "cc", "d", "eeeeeeee"}

// randomModel has up to five images, each over one of those ahead of it or over none, some with lost clusters.
func randomModel(random *rand.Rand) *model {
	w := &model{images: map[string]*modelImage{}}
	for n, name := range modelNames[:1+random.IntN(len(modelNames))] {
		m := &modelImage{}
		if n > 0 && random.IntN(4) > 0 {
			m.backing = modelNames[random.IntN(n)]
		}
		for range 1 + random.IntN(5) {
			m.kinds += string("ozd"[random.IntN(3)])
			m.own = append(m.own, randomBytes(random, 8)...)
		}
		if random.IntN(3) == 0 {
			m.lost = randomBytes(random, 8*random.IntN(4))
		}
		w.images[name] = m
	}
	w.room = 4000
	if random.IntN(2) == 0 {
		w.room = w.total() + random.IntN(20)
	}
	return w
}

func randomBytes(random *rand.Rand, many int) string {
	text := make([]byte, many)
	for i := range text {
		text[i] = "\x00\x00abc\xff"[random.IntN(6)]
	}
	return string(text)
}

func (w *model) lay(t *testing.T) *overlay.Store {
	t.Helper()
	s := newStore(t, w.room)
	for name, m := range w.images {
		load(t, s, name, m.file(), overlay.OK)
	}
	return s
}

// agree asks for all files, and for a piece of each view.
func (w *model) agree(t *testing.T, s *overlay.Store, random *rand.Rand) {
	t.Helper()
	for _, name := range modelNames {
		m := w.images[name]
		if m == nil {
			dump(t, s, name, "", overlay.ErrNone)
			continue
		}
		dump(t, s, name, m.file(), overlay.OK)
		view := string(w.view(name))
		read(t, s, name, 0, len(view), view, overlay.OK)
		from := random.IntN(len(view) + 1)
		many := random.IntN(len(view) - from + 1)
		read(t, s, name, from, many, view[from:from+many], overlay.OK)
	}
}

// A random walk of writes, noughts and discards goes as the document says it, in every file and every view.
func TestP6P7AgainstTheDocument(t *testing.T) {
	random := rand.New(rand.NewPCG(6, 7))
	for range 400 {
		w := randomModel(random)
		s := w.lay(t)
		w.agree(t, s, random)
		for range 25 {
			name := modelNames[random.IntN(len(modelNames))]
			from, many := random.IntN(45)-2, random.IntN(26)-1
			if random.IntN(3) == 0 {
				from, many = from/8*8, many/8*8
			}
			switch random.IntN(3) {
			case 0:
				data := randomBytes(random, max(0, many))
				write(t, s, name, from, data, w.write(name, from, data))
			case 1:
				zero(t, s, name, from, many, w.zero(name, from, many))
			case 2:
				discard(t, s, name, from, many, w.discard(name, from, many))
			}
			w.agree(t, s, random)
		}
		if t.Failed() {
			return
		}
	}
}

// fewBlocks has all data clusters be one of three, noughts among them, so that clusters often read the same.
func fewBlocks(random *rand.Rand, w *model) {
	for _, name := range modelNames {
		if m := w.images[name]; m != nil {
			for i := range len(m.kinds) {
				copy(m.own[8*i:], strings.Repeat("\x00ab"[random.IntN(3):][:1], 8))
			}
		}
	}
}

// toolStep does one call of the tools, or a change between them, in the store and in the model, and tells how it ended.
func (w *model) toolStep(t *testing.T, s *overlay.Store, random *rand.Rand) (string, overlay.Errno) {
	t.Helper()
	name := modelNames[random.IntN(len(modelNames))]
	backing := append(modelNames, "")[random.IntN(len(modelNames)+1)]
	place := 8 * random.IntN(5)
	switch random.IntN(6) {
	case 0:
		e := w.commit(name)
		commit(t, s, name, e)
		return "Commit", e
	case 1, 2:
		e := w.rebase(name, backing)
		rebase(t, s, name, backing, e)
		return "Rebase", e
	case 3:
		e := w.rebase(name, "")
		flatten(t, s, name, e)
		return "Flatten", e
	case 4:
		e := w.write(name, place, "bbbbbbbb")
		write(t, s, name, place, "bbbbbbbb", e)
		return "Write", e
	default:
		e := w.zero(name, place, 8)
		zero(t, s, name, place, 8, e)
		return "Zero", e
	}
}

// A random walk of the tools goes as the document says it, in every file, every view and every comparison.
func TestP8P9P10AgainstTheDocument(t *testing.T) {
	random := rand.New(rand.NewPCG(8, 10))
	ends := map[string]int{}
	for range 4000 {
		w := randomModel(random)
		if random.IntN(4) > 0 {
			fewBlocks(random, w)
		}
		if w.room < 4000 {
			w.room = w.total() + random.IntN(4)
		}
		s := w.lay(t)
		for range 8 {
			what, e := w.toolStep(t, s, random)
			ends[what+strconv.Itoa(int(e))]++
			w.agree(t, s, random)
			name, other := modelNames[random.IntN(len(modelNames))], modelNames[random.IntN(len(modelNames))]
			n, e := w.compare(name, other)
			compare(t, s, name, other, n, e)
		}
		if t.Failed() {
			return
		}
	}
	for _, end := range []string{"Commit0", "Commit4", "Commit8", "Commit9", "Rebase0", "Rebase4", "Rebase8", "Rebase9", "Flatten0", "Flatten4", "Flatten9"} {
		if ends[end] < 20 {
			t.Errorf("the walk came to %s only %d times", end, ends[end])
		}
	}
}
