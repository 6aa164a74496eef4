package overlay_test

import (
	"math/rand/v2"
	"testing"

	"overlay/overlay"
)

// model is a store as the document says it, byte by byte and without the program's own parts. All its images are sound.
type model struct {
	room   int
	images map[string]*modelImage
}

type modelImage struct {
	backing string
	kinds   string // a letter for each cluster: o open, z zero, d data
	own     []byte // 8 bytes for each cluster; they count only where it is data
	lost    string
}

func (m *modelImage) size() int { return 8 * len(m.kinds) }

func (m *modelImage) file() string {
	entries, data := "", ""
	for i, k := range m.kinds {
		switch k {
		case 'o':
			entries += "\x00"
		case 'z':
			entries += "\xff"
		case 'd':
			data += string(m.own[8*i : 8*i+8])
			entries += string(rune(len(data) / 8))
		}
	}
	data += m.lost
	return "OV\x01" + string(rune(len(m.kinds))) + string(rune(len(m.backing))) + m.backing + entries + string(rune(len(data)/8)) + data
}

// at is one byte of a view.
func (w *model) at(name string, place int) byte {
	m := w.images[name]
	if m == nil || place >= m.size() {
		return 0
	}
	switch m.kinds[place/8] {
	case 'z':
		return 0
	case 'd':
		return m.own[place]
	default:
		return w.at(m.backing, place)
	}
}

func (w *model) view(name string) []byte {
	view := make([]byte, w.images[name].size())
	for i := range view {
		view[i] = w.at(name, i)
	}
	return view
}

func (w *model) total() int {
	total := 0
	for _, m := range w.images {
		total += len(m.file())
	}
	return total
}

// put has the clusters become these letters and their bytes those of the view, unless the room is too small.
func (w *model) put(name string, kinds []byte, view []byte) overlay.Errno {
	before := w.images[name]
	w.images[name] = &modelImage{before.backing, string(kinds), view, ""}
	if w.total() > w.room {
		w.images[name] = before
		return overlay.ErrFull
	}
	return overlay.OK
}

func (w *model) outside(name string, from, many int) bool {
	return from < 0 || many < 0 || from+many > w.images[name].size()
}

func (w *model) write(name string, from int, data string) overlay.Errno {
	if w.images[name] == nil {
		return overlay.ErrNone
	}
	if w.outside(name, from, len(data)) {
		return overlay.ErrArg
	}
	if data == "" {
		return overlay.OK
	}
	kinds, view := []byte(w.images[name].kinds), w.view(name)
	for i := range len(data) {
		view[from+i] = data[i]
		kinds[(from+i)/8] = 'd'
	}
	return w.put(name, kinds, view)
}

// inside counts of each cluster the bytes that lie in the range.
func inside(clusters, from, many int) []int {
	counts := make([]int, clusters)
	for i := from; i < from+many; i++ {
		counts[i/8]++
	}
	return counts
}

func (w *model) zero(name string, from, many int) overlay.Errno {
	if w.images[name] == nil {
		return overlay.ErrNone
	}
	if w.outside(name, from, many) {
		return overlay.ErrArg
	}
	if many == 0 {
		return overlay.OK
	}
	kinds, view := []byte(w.images[name].kinds), w.view(name)
	for i := range many {
		view[from+i] = 0
	}
	for i, n := range inside(len(kinds), from, many) {
		if n == 8 {
			kinds[i] = 'z'
		} else if n > 0 {
			kinds[i] = 'd'
		}
	}
	return w.put(name, kinds, view)
}

func (w *model) discard(name string, from, many int) overlay.Errno {
	m := w.images[name]
	if m == nil {
		return overlay.ErrNone
	}
	if w.outside(name, from, many) {
		return overlay.ErrArg
	}
	kinds, some := []byte(m.kinds), false
	for i, n := range inside(len(kinds), from, many) {
		if n == 8 {
			some = true
			kinds[i] = 'o'
			if m.backing != "" {
				kinds[i] = 'z'
			}
		}
	}
	if !some {
		return overlay.OK
	}
	return w.put(name, kinds, m.own)
}

var modelNames = []string{"a", "b", "cc", "d", "eeeeeeee"}

// randomModel has up to five images, each over one of those ahead of it or over none, some with lost clusters.
func randomModel(random *rand.Rand) *model {
	w := &model{images: map[string]*modelImage{}}
	for n, name := range modelNames[:1+random.IntN(len(modelNames))] {
		m := &modelImage{}
		if n > 0 && random.IntN(4) > 0 {
			m.backing = modelNames[random.IntN(n)]
		}
		for range 1 + random.IntN(5) {
			m.kinds += string("ozd"[random.IntN(3)])
			m.own = append(m.own, randomBytes(random, 8)...)
		}
		if random.IntN(3) == 0 {
			m.lost = randomBytes(random, 8*random.IntN(4))
		}
		w.images[name] = m
	}
	w.room = 4000
	if random.IntN(2) == 0 {
		w.room = w.total() + random.IntN(20)
	}
	return w
}

func randomBytes(random *rand.Rand, many int) string {
	text := make([]byte, many)
	for i := range text {
		text[i] = "\x00\x00abc\xff"[random.IntN(6)]
	}
	return string(text)
}

func (w *model) lay(t *testing.T) *overlay.Store {
	t.Helper()
	s := newStore(t, w.room)
	for name, m := range w.images {
		load(t, s, name, m.file(), overlay.OK)
	}
	return s
}

// agree asks for all files, and for a piece of each view.
func (w *model) agree(t *testing.T, s *overlay.Store, random *rand.Rand) {
	t.Helper()
	for name, m := range w.images {
		dump(t, s, name, m.file(), overlay.OK)
		view := string(w.view(name))
		read(t, s, name, 0, len(view), view, overlay.OK)
		from := random.IntN(len(view) + 1)
		many := random.IntN(len(view) - from + 1)
		read(t, s, name, from, many, view[from:from+many], overlay.OK)
	}
}

// A random walk of writes, noughts and discards goes as the document says it, in every file and every view.
func TestP6P7AgainstTheDocument(t *testing.T) {
	random := rand.New(rand.NewPCG(6, 7))
	for range 400 {
		w := randomModel(random)
		s := w.lay(t)
		w.agree(t, s, random)
		for range 25 {
			name := modelNames[random.IntN(len(modelNames))]
			from, many := random.IntN(45)-2, random.IntN(26)-1
			if random.IntN(3) == 0 {
				from, many = from/8*8, many/8*8
			}
			switch random.IntN(3) {
			case 0:
				data := randomBytes(random, max(0, many))
				write(t, s, name, from, data, w.write(name, from, data))
			case 1:
				zero(t, s, name, from, many, w.zero(name, from, many))
			case 2:
				discard(t, s, name, from, many, w.discard(name, from, many))
			}
			w.agree(t, s, random)
		}
		if t.Failed() {
			return
		}
	}
}
