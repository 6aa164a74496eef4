package overlay_test

import (
	"strings"
	"testing"

	"overlay/overlay"
)

const (
	lowest  = -1 << 63
	highest = 1<<63 - 1
)

func newStore(t *testing.T, room int) *overlay.Store {
	t.Helper()
	s, e := overlay.New(room)
	if s == nil || e != overlay.OK {
		t.Fatalf("New(%d) = %v, %d", room, s, e)
	}
	return s
}

func load(t *testing.T, s *overlay.Store, name, file string, want overlay.Errno) {
	t.Helper()
	if e := s.Load(name, file); e != want {
		t.Errorf("Load(%q, %d bytes) = %d, want %d", name, len(file), e, want)
	}
}

func makeImage(t *testing.T, s *overlay.Store, name string, clusters int, backing string, want overlay.Errno) {
	t.Helper()
	if e := s.Make(name, clusters, backing); e != want {
		t.Errorf("Make(%q, %d, %q) = %d, want %d", name, clusters, backing, e, want)
	}
}

func drop(t *testing.T, s *overlay.Store, name string, want overlay.Errno) {
	t.Helper()
	if e := s.Drop(name); e != want {
		t.Errorf("Drop(%q) = %d, want %d", name, e, want)
	}
}

func dump(t *testing.T, s *overlay.Store, name, want string, wantErr overlay.Errno) {
	t.Helper()
	if f, e := s.Dump(name); f != want || e != wantErr {
		t.Errorf("Dump(%q) = %q, %d, want %q, %d", name, f, e, want, wantErr)
	}
}

func chain(t *testing.T, s *overlay.Store, name, want, where string, wantErr overlay.Errno) {
	t.Helper()
	if c, w, e := s.Chain(name); c != want || w != where || e != wantErr {
		t.Errorf("Chain(%q) = %q, %q, %d, want %q, %q, %d", name, c, w, e, want, where, wantErr)
	}
}

func check(t *testing.T, s *overlay.Store, name, want string, wantErr overlay.Errno) {
	t.Helper()
	if c, e := s.Check(name); c != want || e != wantErr {
		t.Errorf("Check(%q) = %q, %d, want %q, %d", name, c, e, want, wantErr)
	}
}

func read(t *testing.T, s *overlay.Store, name string, from, many int, want string, wantErr overlay.Errno) {
	t.Helper()
	if f, e := s.Read(name, from, many); f != want || e != wantErr {
		t.Errorf("Read(%q, %d, %d) = %q, %d, want %q, %d", name, from, many, f, e, want, wantErr)
	}
}

func write(t *testing.T, s *overlay.Store, name string, from int, data string, want overlay.Errno) {
	t.Helper()
	if e := s.Write(name, from, data); e != want {
		t.Errorf("Write(%q, %d, %q) = %d, want %d", name, from, data, e, want)
	}
}

func zero(t *testing.T, s *overlay.Store, name string, from, many int, want overlay.Errno) {
	t.Helper()
	if e := s.Zero(name, from, many); e != want {
		t.Errorf("Zero(%q, %d, %d) = %d, want %d", name, from, many, e, want)
	}
}

func discard(t *testing.T, s *overlay.Store, name string, from, many int, want overlay.Errno) {
	t.Helper()
	if e := s.Discard(name, from, many); e != want {
		t.Errorf("Discard(%q, %d, %d) = %d, want %d", name, from, many, e, want)
	}
}

func commit(t *testing.T, s *overlay.Store, name string, want overlay.Errno) {
	t.Helper()
	if e := s.Commit(name); e != want {
		t.Errorf("Commit(%q) = %d, want %d", name, e, want)
	}
}

func rebase(t *testing.T, s *overlay.Store, name, backing string, want overlay.Errno) {
	t.Helper()
	if e := s.Rebase(name, backing); e != want {
		t.Errorf("Rebase(%q, %q) = %d, want %d", name, backing, e, want)
	}
}

func flatten(t *testing.T, s *overlay.Store, name string, want overlay.Errno) {
	t.Helper()
	if e := s.Flatten(name); e != want {
		t.Errorf("Flatten(%q) = %d, want %d", name, e, want)
	}
}

func compare(t *testing.T, s *overlay.Store, name, other string, want int, wantErr overlay.Errno) {
	t.Helper()
	if n, e := s.Compare(name, other); n != want || e != wantErr {
		t.Errorf("Compare(%q, %q) = %d, %d, want %d, %d", name, other, n, e, want, wantErr)
	}
}

// noughts is a text of so many bytes 0.
func noughts(many int) string { return strings.Repeat("\x00", many) }

// picture is the file of an image in its plain form: of its clusters a letter each (o open, z zero, d data), and what the data ones have of these bytes.
func picture(backing, kinds, bytes string) string {
	entries, data := "", ""
	for i, k := range kinds {
		switch k {
		case 'o':
			entries += "\x00"
		case 'z':
			entries += "\xff"
		case 'd':
			data += bytes[8*i : 8*i+8]
			entries += string(rune(len(data) / 8))
		}
	}
	return "OV\x01" + string(rune(len(kinds))) + string(rune(len(backing))) + backing + entries + string(rune(len(data)/8)) + data
}

// shown is the view of an image of these kinds and bytes over a view below.
func shown(kinds, bytes, below string) string {
	view := ""
	for i, k := range kinds {
		view += map[rune]string{'o': below + noughts(240), 'z': noughts(240), 'd': bytes}[k][8*i : 8*i+8]
	}
	return view
}

// over is the file of an image of one open cluster over this backing.
func over(backing string) string {
	return "OV\x01\x01" + string([]byte{byte(len(backing))}) + backing + "\x00\x00"
}

// fill loads files without bytes until there are this many more.
func fill(t *testing.T, s *overlay.Store, many int) {
	t.Helper()
	for i := range many {
		load(t, s, "fill"+string(rune('0'+i)), "", overlay.OK)
	}
}

// someNames are names that the tests use and texts that are no names.
var someNames = []string{
	"", "a", "b", "c", "d", "abcdefgh", "abcdefghi", "A", "a-", "a,b", " ", "\x00", "\xff", "\u00e9", "fill0", "fill7",
	strings.Repeat("a", 1001),
}

// state is everything that the face tells of a store.
func state(s *overlay.Store) string {
	var b strings.Builder
	tell := func(text string, e overlay.Errno) {
		b.WriteString(text)
		b.WriteByte(byte('0' + e))
		b.WriteByte('\n')
	}
	for _, name := range someNames {
		tell(s.Dump(name))
		tell(s.Check(name))
		c, w, e := s.Chain(name)
		tell(c+" "+w, e)
		tell(s.Read(name, 0, 8))
	}
	return b.String()
}

// unsound are stores in which there is a file a that is no sound image.
var unsound = []struct {
	what  string
	files map[string]string
	want  overlay.Errno
}{
	{"no image", map[string]string{"a": "OV"}, overlay.ErrCorrupt},
	{"no image, in its last entry", map[string]string{"a": "OV\x01\x02\x00\x01\x02\x0112345678"}, overlay.ErrCorrupt},
	{"over no image", map[string]string{"a": dataOver("b"), "b": "OV\x01\x01\x00\x01\x00"}, overlay.ErrCorrupt},
	{"over one over no image", map[string]string{"a": dataOver("b"), "b": over("c"), "c": ""}, overlay.ErrCorrupt},
	{"over none", map[string]string{"a": dataOver("b")}, overlay.ErrMissing},
	{"over one over none", map[string]string{"a": dataOver("b"), "b": over("c")}, overlay.ErrMissing},
	{"over itself", map[string]string{"a": dataOver("a")}, overlay.ErrCycle},
	{"over one over it", map[string]string{"a": dataOver("b"), "b": over("a")}, overlay.ErrCycle},
	{"over one over itself", map[string]string{"a": dataOver("b"), "b": over("b")}, overlay.ErrCycle},
}

func loadAll(t *testing.T, s *overlay.Store, files map[string]string) {
	t.Helper()
	for name, file := range files {
		load(t, s, name, file, overlay.OK)
	}
}

// dataOver is the file of an image of one data cluster, and one that is lost, over this backing.
func dataOver(backing string) string {
	return "OV\x01\x01" + string([]byte{byte(len(backing))}) + backing + "\x02\x02lostlost12345678"
}
