package overlay_test

import (
	"strings"
	"testing"

	"overlay/overlay"
)

func TestP4Clusters(t *testing.T) {
	for _, n := range []int{lowest, -1, 0, 31, 255, 256, 257, highest} {
		s := newStore(t, 4000)
		makeImage(t, s, "a", n, "", overlay.ErrArg)
		dump(t, s, "a", "", overlay.ErrNone)
	}
	for n := 1; n <= 30; n++ {
		s := newStore(t, 4000)
		makeImage(t, s, "a", n, "", overlay.OK)
		dump(t, s, "a", "OV\x01"+string([]byte{byte(n), 0})+strings.Repeat("\x00", n+1), overlay.OK)
		makeImage(t, s, "b", n, "a", overlay.OK)
		dump(t, s, "b", "OV\x01"+string([]byte{byte(n), 1})+"a"+strings.Repeat("\x00", n+1), overlay.OK)
	}
}

func TestP4Backing(t *testing.T) {
	s := newStore(t, 4000)
	makeImage(t, s, "abcdefgh", 2, "", overlay.OK)
	makeImage(t, s, "b", 1, "abcdefgh", overlay.OK)
	dump(t, s, "b", "OV\x01\x01\x08abcdefgh\x00\x00", overlay.OK)
	for _, backing := range []string{"x", "c", "A", ",", "\x00", "abcdefghi", "abcdefg", strings.Repeat("a", 300)} {
		makeImage(t, s, "c", 1, backing, overlay.ErrNone)
		dump(t, s, "c", "", overlay.ErrNone)
	}
	load(t, s, "lost", "OV\x01\x01\x00\x00\x0112345678", overlay.OK)
	makeImage(t, s, "c", 1, "lost", overlay.OK)
	chain(t, s, "c", "c,lost", "", overlay.OK)
}

func TestP4BackingThatIsNotSound(t *testing.T) {
	s := newStore(t, 4000)
	for _, c := range []struct {
		bottom string
		want   overlay.Errno
	}{
		{"", overlay.ErrCorrupt}, {"OV", overlay.ErrCorrupt}, {over("none"), overlay.ErrMissing}, {over("new"), overlay.ErrMissing}, {over("a"), overlay.ErrCycle}, {over("b"), overlay.ErrCycle}, {over(""), overlay.OK},
	} {
		load(t, s, "a", c.bottom, overlay.OK)
		load(t, s, "b", over("a"), overlay.OK)
		makeImage(t, s, "new", 1, "a", c.want)
		s.Drop("new")
		makeImage(t, s, "new", 1, "b", c.want)
		s.Drop("new")
	}
}

func TestP4EightFiles(t *testing.T) {
	s := newStore(t, 4000)
	fill(t, s, 7)
	makeImage(t, s, "a", 1, "", overlay.OK)
	makeImage(t, s, "b", 1, "", overlay.ErrArg)
	makeImage(t, s, "a", 1, "", overlay.ErrArg)
	drop(t, s, "fill0", overlay.OK)
	makeImage(t, s, "a", 1, "", overlay.ErrExists)
	makeImage(t, s, "b", 1, "a", overlay.OK)
}

func TestP4RoomJustEnough(t *testing.T) {
	s := newStore(t, 36)
	makeImage(t, s, "a", 30, "", overlay.OK)
	s = newStore(t, 35)
	makeImage(t, s, "a", 30, "", overlay.ErrFull)
	makeImage(t, s, "a", 29, "", overlay.OK)
	s = newStore(t, 15)
	makeImage(t, s, "a", 1, "", overlay.OK)
	makeImage(t, s, "b", 1, "a", overlay.OK)
	s = newStore(t, 14)
	makeImage(t, s, "a", 1, "", overlay.OK)
	makeImage(t, s, "b", 1, "a", overlay.ErrFull)
	dump(t, s, "b", "", overlay.ErrNone)
	makeImage(t, s, "b", 1, "", overlay.OK)
}

// The name that is made again is refused even if what stands there is no image.
func TestP4Exists(t *testing.T) {
	s := newStore(t, 100)
	load(t, s, "a", "", overlay.OK)
	makeImage(t, s, "a", 1, "", overlay.ErrExists)
	dump(t, s, "a", "", overlay.OK)
}
