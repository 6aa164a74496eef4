package overlay_test

import (
	"strings"
	"testing"

	"overlay/overlay"
)

func TestP9Examples(t *testing.T) {
	s := newStore(t, 200)
	load(t, s, "a", picture("", "dd", "12345678"+noughts(8)), overlay.OK)
	load(t, s, "c", picture("", "d", "12345678"), overlay.OK)
	makeImage(t, s, "b", 2, "a", overlay.OK)
	rebase(t, s, "b", "c", overlay.OK)
	dump(t, s, "b", picture("c", "oo", ""), overlay.OK)
	rebase(t, s, "b", "", overlay.OK)
	dump(t, s, "b", picture("", "do", "12345678"), overlay.OK)
}

// settled is what the kinds become over another view below, so that the view stays.
func settled(kinds, view, below string) string {
	below += noughts(240)
	out := ""
	for i := range len(kinds) {
		here := view[8*i : 8*i+8]
		switch {
		case kinds[i] != 'o' || here == below[8*i:8*i+8]:
			out += kinds[i : i+1]
		case here == noughts(8):
			out += "z"
		default:
			out += "d"
		}
	}
	return out
}

// grounds are backings: none, and images shorter, as long and longer than three clusters; some read the same in places, and by unlike kinds.
var grounds = []struct{ name, kinds, bytes string }{
	{"", "", ""},
	{"short", "d", "ABCDEFGH"},
	{"same", "ddd", bytesBelow},
	{"mixed", "zdo", bytesBelow},
	{"noughts", "dzo", noughts(24)},
	{"almost", "dddd", "ABCDEFGHIJKLMNOQQRSTUVWX\x00\x00\x00\x00\x00\x00\x00x"},
	{"long", "doddd", "........" + bytesBelow[8:] + noughts(8) + "!!!!!!!!"},
}

func loadGrounds(t *testing.T, s *overlay.Store) {
	t.Helper()
	for _, g := range grounds[1:] {
		load(t, s, g.name, picture("", g.kinds, g.bytes), overlay.OK)
	}
}

// Every kind of cluster from every ground to every other one, itself among them.
func TestP9FromEveryGroundToEveryOther(t *testing.T) {
	s := newStore(t, 4000)
	loadGrounds(t, s)
	for _, from := range grounds {
		for _, to := range grounds {
			for _, all := range everyKinds() {
				for size := 1; size <= 3; size++ {
					kinds := all[:size]
					load(t, s, "x", picture(from.name, kinds, ownBytes), overlay.OK)
					view := shown(kinds, ownBytes, shown(from.kinds, from.bytes, ""))
					rebase(t, s, "x", to.name, overlay.OK)
					after := settled(kinds, view, shown(to.kinds, to.bytes, ""))
					dump(t, s, "x", picture(to.name, after, view), overlay.OK)
					read(t, s, "x", 0, 8*size, view, overlay.OK)
				}
			}
		}
	}
	for _, g := range grounds[1:] {
		dump(t, s, g.name, picture("", g.kinds, g.bytes), overlay.OK)
	}
}

func TestP9FlattenFromEveryGround(t *testing.T) {
	s := newStore(t, 4000)
	loadGrounds(t, s)
	for _, from := range grounds {
		for _, kinds := range everyKinds() {
			file := picture(from.name, kinds, ownBytes)
			load(t, s, "x", file, overlay.OK)
			flatten(t, s, "x", overlay.OK)
			view := shown(kinds, ownBytes, shown(from.kinds, from.bytes, ""))
			dump(t, s, "x", picture("", settled(kinds, view, ""), view), overlay.OK)
			flat, _ := s.Dump("x")
			load(t, s, "x", file, overlay.OK)
			rebase(t, s, "x", "", overlay.OK)
			dump(t, s, "x", flat, overlay.OK)
		}
	}
}

// One byte is enough to make a cluster other, at whichever place it is.
func TestP9EveryByteCounts(t *testing.T) {
	s := newStore(t, 4000)
	for i := range 24 {
		other := bytesBelow[:i] + "\x00" + bytesBelow[i+1:]
		load(t, s, "a", picture("", "ddd", bytesBelow), overlay.OK)
		load(t, s, "b", picture("", "ddd", other), overlay.OK)
		load(t, s, "x", picture("a", "ooo", ""), overlay.OK)
		rebase(t, s, "x", "b", overlay.OK)
		dump(t, s, "x", picture("b", settled("ooo", bytesBelow, other), bytesBelow), overlay.OK)
		one := noughts(i) + "x" + noughts(23-i)
		load(t, s, "a", picture("", "ddd", one), overlay.OK)
		load(t, s, "x", picture("a", "ooo", ""), overlay.OK)
		flatten(t, s, "x", overlay.OK)
		dump(t, s, "x", picture("", "ooo"[:i/8]+"d"+"ooo"[i/8+1:], one), overlay.OK)
	}
}

// Over chains of several: what counts is what the whole chain shows, and where an image of it ends nothing shines through from further below.
func TestP9OverChains(t *testing.T) {
	s := newStore(t, 4000)
	load(t, s, "a", picture("", "dddd", bytesBelow+"YYYYYYYY"), overlay.OK)
	load(t, s, "b", picture("a", "ozd", ownBytes), overlay.OK)
	load(t, s, "c", picture("b", "oooo", ""), overlay.OK)
	load(t, s, "d", picture("", "d", "ABCDEFGH"), overlay.OK)
	load(t, s, "e", picture("d", "oodo", noughts(16)+ownBytes[16:24]), overlay.OK)
	view := "ABCDEFGH" + noughts(8) + "ghijklmn" + noughts(8)
	read(t, s, "c", 0, 32, view, overlay.OK)
	rebase(t, s, "c", "e", overlay.OK)
	dump(t, s, "c", picture("e", "oooo", ""), overlay.OK)
	rebase(t, s, "c", "a", overlay.OK)
	dump(t, s, "c", picture("a", "ozdz", view), overlay.OK)
	rebase(t, s, "c", "b", overlay.OK)
	dump(t, s, "c", picture("b", "ozdz", view), overlay.OK)
	flatten(t, s, "c", overlay.OK)
	dump(t, s, "c", picture("", "dzdz", view), overlay.OK)
	for _, name := range []string{"a", "b", "d", "e"} {
		drop(t, s, name, overlay.OK)
	}
	read(t, s, "c", 0, 32, view, overlay.OK)
	chain(t, s, "c", "c", "", overlay.OK)
}

// An image may pass by one of its own chain, to that which lies below it.
func TestP9ToOneFurtherBelow(t *testing.T) {
	s := newStore(t, 4000)
	load(t, s, "a", picture("", "ddo", bytesBelow), overlay.OK)
	load(t, s, "b", picture("a", "odd", ownBytes), overlay.OK)
	load(t, s, "c", picture("b", "ooo", ""), overlay.OK)
	rebase(t, s, "c", "a", overlay.OK)
	dump(t, s, "c", picture("a", "odd", ownBytes), overlay.OK)
	chain(t, s, "c", "c,a", "", overlay.OK)
	rebase(t, s, "b", "c", overlay.OK)
	dump(t, s, "b", picture("c", "odd", ownBytes), overlay.OK)
	chain(t, s, "b", "b,c,a", "", overlay.OK)
}

func TestP9ToItselfOrToOneOverIt(t *testing.T) {
	s := newStore(t, 4000)
	load(t, s, "a", "OV\x01\x01\x00\x00\x01lostlost", overlay.OK)
	makeImage(t, s, "b", 2, "a", overlay.OK)
	makeImage(t, s, "c", 3, "b", overlay.OK)
	makeImage(t, s, "d", 1, "a", overlay.OK)
	before := state(s)
	for _, c := range [][2]string{{"a", "a"}, {"a", "b"}, {"a", "c"}, {"a", "d"}, {"b", "b"}, {"b", "c"}, {"c", "c"}, {"d", "d"}} {
		rebase(t, s, c[0], c[1], overlay.ErrBelow)
	}
	if state(s) != before {
		t.Errorf("the store has changed with ErrBelow")
	}
	rebase(t, s, "b", "d", overlay.OK)
	chain(t, s, "c", "c,b,d,a", "", overlay.OK)
	rebase(t, s, "d", "c", overlay.ErrBelow)
	rebase(t, s, "c", "", overlay.OK)
	rebase(t, s, "d", "c", overlay.OK)
	chain(t, s, "b", "b,d,c", "", overlay.OK)
}

// With nothing to change the file is written all the same, and is plain then.
func TestP9FilesWithLostClusters(t *testing.T) {
	s := newStore(t, 4000)
	lower := "OV\x01\x02\x00\x02\x01\x0312345678abcdefghlostlost"
	load(t, s, "a", lower, overlay.OK)
	load(t, s, "c", lower, overlay.OK)
	upper := "\x03\x00\xff\x01\x04ABCDEFGHlostlostIJKLMNOP********"
	for _, backing := range []string{"a", "c"} {
		load(t, s, "b", "OV\x01\x04\x01a"+upper, overlay.OK)
		rebase(t, s, "b", backing, overlay.OK)
		dump(t, s, "b", "OV\x01\x04\x01"+backing+"\x01\x00\xff\x02\x02IJKLMNOPABCDEFGH", overlay.OK)
	}
	for _, file := range []string{"OV\x01\x04\x01a" + upper, "OV\x01\x04\x00" + upper} {
		load(t, s, "b", file, overlay.OK)
		second, data := "\x00", "IJKLMNOPABCDEFGH"
		if file[4] == 1 {
			second, data = "\x02", "IJKLMNOP12345678ABCDEFGH"
		}
		flatten(t, s, "b", overlay.OK)
		many := string(rune(len(data) / 8))
		dump(t, s, "b", "OV\x01\x04\x00\x01"+second+"\xff"+many+many+data, overlay.OK)
	}
	dump(t, s, "a", lower, overlay.OK)
	dump(t, s, "c", lower, overlay.OK)
}

// Data and zero clusters stay what they are, though the new backing reads the same there.
func TestP9OnlyOpenClustersChange(t *testing.T) {
	s := newStore(t, 4000)
	load(t, s, "a", picture("", "ddd", ownBytes), overlay.OK)
	load(t, s, "x", picture("", "dzd", ownBytes[:16]+noughts(8)), overlay.OK)
	rebase(t, s, "x", "a", overlay.OK)
	dump(t, s, "x", picture("a", "dzd", ownBytes[:16]+noughts(8)), overlay.OK)
	flatten(t, s, "x", overlay.OK)
	dump(t, s, "x", picture("", "dzd", ownBytes[:16]+noughts(8)), overlay.OK)
}

func TestP9ThirtyClustersOverLongNames(t *testing.T) {
	s := newStore(t, 4000)
	makeImage(t, s, "abcdefgh", 30, "", overlay.OK)
	makeImage(t, s, "12345678", 29, "", overlay.OK)
	all := strings.Repeat("0123456789ab", 20)
	write(t, s, "abcdefgh", 0, all, overlay.OK)
	write(t, s, "12345678", 0, all[:232], overlay.OK)
	makeImage(t, s, "x", 30, "abcdefgh", overlay.OK)
	rebase(t, s, "x", "12345678", overlay.OK)
	dump(t, s, "x", "OV\x01\x1e\x0812345678"+noughts(29)+"\x01\x01"+all[232:], overlay.OK)
	flatten(t, s, "x", overlay.OK)
	read(t, s, "x", 0, 240, all, overlay.OK)
	check(t, s, "x", "30,0,0,0", overlay.OK)
}

// To the byte: 8 for each new data cluster, and as many as the backing's name has more or fewer.
func TestP9NeedsRoom(t *testing.T) {
	for _, c := range []struct {
		from, to string
		more     int
	}{{"a", "", 15}, {"a", "abcdefgh", 23}, {"abcdefgh", "a", 0}, {"", "abcdefgh", 8}, {"", "a", 1}, {"abcdefgh", "", -8}, {"a", "a", 0}} {
		for spare := range 25 {
			s := newStore(t, 4000)
			load(t, s, "a", picture("", "dd", ownBytes), overlay.OK)
			load(t, s, "abcdefgh", picture("", "oo", ""), overlay.OK)
			file := picture(c.from, "oo", "")
			load(t, s, "x", file, overlay.OK)
			small := newStore(t, 8+16+8+len(file)+spare)
			for _, name := range []string{"a", "abcdefgh", "x"} {
				f, _ := s.Dump(name)
				load(t, small, name, f, overlay.OK)
			}
			want := overlay.OK
			if c.more > spare {
				want = overlay.ErrFull
			}
			rebase(t, small, "x", c.to, want)
			if want != overlay.OK {
				dump(t, small, "x", file, overlay.OK)
			}
			if c.to == "" {
				load(t, small, "x", file, overlay.OK)
				flatten(t, small, "x", want)
			}
		}
	}
}

// What is lost makes room for what becomes data.
func TestP9LostClustersMakeRoom(t *testing.T) {
	upper := "OV\x01\x01\x01a\x00\x01lostlost"
	lower := picture("", "d", ownBytes)
	s := newStore(t, len(upper)+len(lower))
	load(t, s, "a", lower, overlay.OK)
	load(t, s, "b", upper, overlay.OK)
	flatten(t, s, "b", overlay.OK)
	dump(t, s, "b", picture("", "d", ownBytes), overlay.OK)
}

func TestP9OfWhatIsNotThere(t *testing.T) {
	s := newStore(t, 4000)
	makeImage(t, s, "a", 1, "", overlay.OK)
	load(t, s, "bad", "OV", overlay.OK)
	for _, name := range []string{"", "b", "A", "a,b", "abcdefghi"} {
		flatten(t, s, name, overlay.ErrNone)
		for _, backing := range []string{"", "a", "b", "bad", name} {
			rebase(t, s, name, backing, overlay.ErrNone)
		}
		if name != "" {
			rebase(t, s, "a", name, overlay.ErrNone)
		}
	}
	dump(t, s, "a", over(""), overlay.OK)
}

// Of two that are not sound the image's own error is told, though there is no such backing.
func TestP9OfWhatIsNotSound(t *testing.T) {
	for _, c := range unsound {
		s := newStore(t, 4000)
		loadAll(t, s, c.files)
		load(t, s, "good", picture("", "ozd", ownBytes), overlay.OK)
		load(t, s, "lost", over("nowhere"), overlay.OK)
		load(t, s, "bad", "", overlay.OK)
		before := state(s)
		flatten(t, s, "a", c.want)
		for _, backing := range []string{"", "a", "b", "good", "lost", "bad", "none", "A"} {
			rebase(t, s, "a", backing, c.want)
		}
		rebase(t, s, "good", "a", c.want)
		if state(s) != before {
			t.Errorf("%s: the store has changed", c.what)
		}
		dump(t, s, "good", picture("", "ozd", ownBytes), overlay.OK)
	}
}
