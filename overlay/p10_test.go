package overlay_test

import (
	"testing"

	"overlay/overlay"
)

// bothWays compares the two in both orders.
func bothWays(t *testing.T, s *overlay.Store, name, other string, want int) {
	t.Helper()
	compare(t, s, name, other, want, overlay.OK)
	compare(t, s, other, name, want, overlay.OK)
}

func TestP10Examples(t *testing.T) {
	s := newStore(t, 200)
	makeImage(t, s, "a", 2, "", overlay.OK)
	write(t, s, "a", 3, "xyz", overlay.OK)
	makeImage(t, s, "b", 3, "a", overlay.OK)
	write(t, s, "b", 6, "pq34", overlay.OK)
	bothWays(t, s, "a", "b", 6)
}

func TestP10EveryByte(t *testing.T) {
	s := newStore(t, 4000)
	load(t, s, "a", picture("", "ddd", ownBytes), overlay.OK)
	load(t, s, "b", picture("", "ddd", ownBytes), overlay.OK)
	bothWays(t, s, "a", "b", -1)
	for i := 23; i >= 0; i-- {
		write(t, s, "b", i, "!", overlay.OK)
		bothWays(t, s, "a", "b", i)
	}
}

// What follows the shorter one is noughts, whatever its backing has there.
func TestP10OfUnlikeLength(t *testing.T) {
	s := newStore(t, 4000)
	makeImage(t, s, "long", 30, "", overlay.OK)
	makeImage(t, s, "short", 1, "long", overlay.OK)
	bothWays(t, s, "long", "short", -1)
	for i := 239; i >= 8; i -= 7 {
		write(t, s, "long", i, "x", overlay.OK)
		bothWays(t, s, "long", "short", i)
	}
	write(t, s, "long", 3, "x", overlay.OK)
	bothWays(t, s, "long", "short", 8)
	zero(t, s, "long", 8, 232, overlay.OK)
	bothWays(t, s, "long", "short", -1)
	write(t, s, "short", 7, "\xff", overlay.OK)
	bothWays(t, s, "long", "short", 7)
}

// Views are compared, not files: by which kinds and from where the bytes come counts for nothing.
func TestP10UnlikeFilesOfOneView(t *testing.T) {
	s := newStore(t, 4000)
	load(t, s, "a", picture("", "ddd", ownBytes[:8]+noughts(16)), overlay.OK)
	load(t, s, "b", picture("a", "ooo", ""), overlay.OK)
	load(t, s, "c", picture("b", "ozozo", ""), overlay.OK)
	load(t, s, "d", "OV\x01\x02\x00\x02\x00\x02lostlost"+ownBytes[:8], overlay.OK)
	load(t, s, "e", picture("", "d", ownBytes), overlay.OK)
	names := []string{"a", "b", "c", "d", "e"}
	for _, name := range names {
		for _, other := range names {
			compare(t, s, name, other, -1, overlay.OK)
		}
	}
	load(t, s, "f", picture("d", "oooz", ""), overlay.OK)
	load(t, s, "g", picture("d", "ooood", noughts(32)+"\x00\x00x....."), overlay.OK)
	for _, name := range names {
		bothWays(t, s, name, "f", -1)
		bothWays(t, s, name, "g", 34)
	}
}

// What is below another image is compared as it is seen through it.
func TestP10ThroughChains(t *testing.T) {
	s := newStore(t, 4000)
	load(t, s, "a", picture("", "ddd", bytesBelow), overlay.OK)
	load(t, s, "b", picture("a", "ooz", ""), overlay.OK)
	load(t, s, "c", picture("b", "odo", ownBytes), overlay.OK)
	bothWays(t, s, "a", "b", 16)
	bothWays(t, s, "a", "c", 8)
	bothWays(t, s, "b", "c", 8)
	load(t, s, "c", picture("b", "o", ""), overlay.OK)
	bothWays(t, s, "b", "c", 8)
}

func TestP10ChangesNothing(t *testing.T) {
	s := newStore(t, 200)
	load(t, s, "a", "OV\x01\x02\x00\x02\x00\x02lostlost12345678", overlay.OK)
	load(t, s, "b", "OV\x01\x01\x01a\x00\x01lostlost", overlay.OK)
	before := state(s)
	for _, name := range []string{"a", "b"} {
		for _, other := range []string{"a", "b"} {
			compare(t, s, name, other, -1, overlay.OK)
		}
	}
	if state(s) != before {
		t.Errorf("the store has changed")
	}
}

// A name of which there is no file is told ahead of all that is wrong with the other one.
func TestP10OfWhatIsNotThere(t *testing.T) {
	for _, c := range unsound {
		s := newStore(t, 4000)
		loadAll(t, s, c.files)
		makeImage(t, s, "good", 1, "", overlay.OK)
		for _, name := range []string{"", "x", "A", "a,b", "abcdefghi"} {
			for _, other := range []string{"a", "good", name, "y"} {
				compare(t, s, name, other, 0, overlay.ErrNone)
				compare(t, s, other, name, 0, overlay.ErrNone)
			}
		}
	}
}

func TestP10OfWhatIsNotSound(t *testing.T) {
	others := []struct {
		file string
		want overlay.Errno
	}{{"", overlay.ErrCorrupt}, {over("nowhere"), overlay.ErrMissing}, {over("other"), overlay.ErrCycle}}
	for _, c := range unsound {
		s := newStore(t, 4000)
		loadAll(t, s, c.files)
		makeImage(t, s, "good", 1, "", overlay.OK)
		compare(t, s, "a", "good", 0, c.want)
		compare(t, s, "good", "a", 0, c.want)
		compare(t, s, "a", "a", 0, c.want)
		for _, o := range others {
			load(t, s, "other", o.file, overlay.OK)
			compare(t, s, "a", "other", 0, c.want)
			compare(t, s, "other", "a", 0, o.want)
		}
	}
}
