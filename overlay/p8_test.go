package overlay_test

import (
	"strings"
	"testing"

	"overlay/overlay"
)

func TestP8Examples(t *testing.T) {
	s := newStore(t, 200)
	makeImage(t, s, "a", 2, "", overlay.OK)
	write(t, s, "a", 3, "xyz", overlay.OK)
	makeImage(t, s, "b", 3, "a", overlay.OK)
	write(t, s, "b", 6, "pq34", overlay.OK)
	zero(t, s, "b", 8, 16, overlay.OK)
	discard(t, s, "b", 0, 9, overlay.OK)
	commit(t, s, "b", overlay.OK)
	dump(t, s, "a", "OV\x01\x03\x00\xff\xff\xff\x00", overlay.OK)
	dump(t, s, "b", "OV\x01\x03\x01a\x00\x00\x00\x00", overlay.OK)
}

// broughtDown is what the lower kinds and bytes are when the upper ones have come down into them; those beyond the lower end become this letter first.
func broughtDown(upper, upperBytes, lower, lowerBytes, letter string) (string, string) {
	kinds, bytes := "", ""
	for i := range max(len(upper), len(lower)) {
		switch {
		case i < len(upper) && upper[i] != 'o':
			kinds, bytes = kinds+upper[i:i+1], bytes+upperBytes[8*i:8*i+8]
		case i < len(lower):
			kinds, bytes = kinds+lower[i:i+1], bytes+lowerBytes[8*i:8*i+8]
		default:
			kinds, bytes = kinds+letter, bytes+noughts(8)
		}
	}
	return kinds, bytes
}

// Every kind of cluster over every other one, with the backing shorter, as long and longer, over none and over one of its own that is shorter or longer than both.
func TestP8EveryKindIntoEveryKind(t *testing.T) {
	const bottomBytes = "abababababababababababababababab"
	for _, bottom := range []string{"", "d", "dddd"} {
		ground, letter, view := "", "o", ""
		if bottom != "" {
			ground, letter, view = "bottom", "z", bottomBytes[:8*len(bottom)]
		}
		for _, upper := range everyKinds() {
			for _, whole := range everyKinds() {
				for size := 1; size <= 3; size++ {
					for upperSize := 1; upperSize <= 3; upperSize++ {
						upper, lower := upper[:upperSize], whole[:size]
						s := newStore(t, 4000)
						if bottom != "" {
							load(t, s, "bottom", picture("", bottom, bottomBytes), overlay.OK)
						}
						load(t, s, "a", picture(ground, lower, bytesBelow), overlay.OK)
						load(t, s, "b", picture("a", upper, ownBytes), overlay.OK)
						before := shown(upper, ownBytes, shown(lower, bytesBelow, view))
						read(t, s, "b", 0, 8*upperSize, before, overlay.OK)
						commit(t, s, "b", overlay.OK)
						kinds, bytes := broughtDown(upper, ownBytes, lower, bytesBelow, letter)
						dump(t, s, "a", picture(ground, kinds, bytes), overlay.OK)
						dump(t, s, "b", picture("a", strings.Repeat("o", upperSize), ""), overlay.OK)
						read(t, s, "b", 0, 8*upperSize, before, overlay.OK)
						if bottom != "" {
							dump(t, s, "bottom", picture("", bottom, bottomBytes), overlay.OK)
						}
					}
				}
			}
		}
		if t.Failed() {
			return
		}
	}
}

// What is new in the backing reads as noughts there, also where what lies below it goes on.
func TestP8IntoAShorterBacking(t *testing.T) {
	s := newStore(t, 4000)
	load(t, s, "a", picture("", "ddd", bytesBelow), overlay.OK)
	makeImage(t, s, "b", 1, "a", overlay.OK)
	makeImage(t, s, "c", 3, "b", overlay.OK)
	commit(t, s, "c", overlay.OK)
	dump(t, s, "b", picture("a", "ozz", ""), overlay.OK)
	dump(t, s, "c", picture("b", "ooo", ""), overlay.OK)
	read(t, s, "c", 0, 24, "ABCDEFGH"+noughts(16), overlay.OK)
	makeImage(t, s, "d", 5, "a", overlay.OK)
	write(t, s, "d", 32, "x", overlay.OK)
	commit(t, s, "d", overlay.OK)
	dump(t, s, "a", "OV\x01\x05\x00\x01\x02\x03\x00\x04\x04"+bytesBelow+"x"+noughts(7), overlay.OK)
	read(t, s, "b", 0, 24, "ABCDEFGH"+noughts(16), overlay.OK)
}

// A backing of which the image has only the beginning keeps the rest and its length.
func TestP8IntoALongerBacking(t *testing.T) {
	s := newStore(t, 4000)
	load(t, s, "a", picture("", "dzdod", ownBytes+bytesBelow), overlay.OK)
	load(t, s, "b", picture("a", "zd", bytesBelow), overlay.OK)
	commit(t, s, "b", overlay.OK)
	dump(t, s, "a", picture("", "zddod", "........"+bytesBelow[8:16]+ownBytes[16:]+bytesBelow), overlay.OK)
	dump(t, s, "b", picture("a", "oo", ""), overlay.OK)
}

func TestP8FromOneClusterToThirty(t *testing.T) {
	s := newStore(t, 4000)
	makeImage(t, s, "a", 1, "", overlay.OK)
	makeImage(t, s, "b", 30, "a", overlay.OK)
	all := strings.Repeat("0123456789ab", 20)
	write(t, s, "b", 0, all, overlay.OK)
	commit(t, s, "b", overlay.OK)
	read(t, s, "a", 0, 240, all, overlay.OK)
	check(t, s, "a", "30,0,0,0", overlay.OK)
	check(t, s, "b", "0,0,30,0", overlay.OK)
}

// Data that reads as noughts, or as the backing did, stays data; zero stays zero also over nothing.
func TestP8KindsStayAsTheyAre(t *testing.T) {
	s := newStore(t, 4000)
	load(t, s, "a", picture("", "oozd", ownBytes+"same...."), overlay.OK)
	load(t, s, "b", picture("a", "dzdd", noughts(24)+"same...."), overlay.OK)
	commit(t, s, "b", overlay.OK)
	dump(t, s, "a", picture("", "dzdd", noughts(24)+"same...."), overlay.OK)
}

// Both files are written, also with nothing to bring down: neither has lost clusters or data out of order then.
func TestP8BothFilesArePlain(t *testing.T) {
	s := newStore(t, 4000)
	below := "OV\x01\x03\x00\x03\x00\x01\x0412345678lostlostabcdefgh********"
	bottom := "OV\x01\x01\x00\x00\x02lostlostlostlost"
	for _, c := range []struct{ upper, lower, wantLower string }{
		{"OV\x01\x02\x01a\x00\x00\x01lostlost", below, "OV\x01\x03\x00\x01\x00\x02\x02abcdefgh12345678"},
		{"OV\x01\x02\x01a\x02\x01\x03ABCDEFGHIJKLMNOPlostlost", below, "OV\x01\x03\x00\x01\x02\x03\x03IJKLMNOPABCDEFGH12345678"},
		{"OV\x01\x02\x01a\xff\x02\x02lostlostABCDEFGH", below, "OV\x01\x03\x00\xff\x01\x02\x02ABCDEFGH12345678"},
		{"OV\x01\x02\x01a\x00\x00\x00", below, "OV\x01\x03\x00\x01\x00\x02\x02abcdefgh12345678"},
		{"OV\x01\x02\x01a\x00\x00\x01lostlost", "OV\x01\x01\x03bot\x00\x01lostlost", "OV\x01\x02\x03bot\x00\xff\x00"},
	} {
		load(t, s, "bot", bottom, overlay.OK)
		load(t, s, "a", c.lower, overlay.OK)
		load(t, s, "b", c.upper, overlay.OK)
		commit(t, s, "b", overlay.OK)
		dump(t, s, "a", c.wantLower, overlay.OK)
		dump(t, s, "b", "OV\x01\x02\x01a\x00\x00\x00", overlay.OK)
		dump(t, s, "bot", bottom, overlay.OK)
		commit(t, s, "b", overlay.OK)
		dump(t, s, "a", c.wantLower, overlay.OK)
		dump(t, s, "b", "OV\x01\x02\x01a\x00\x00\x00", overlay.OK)
	}
}

// It goes one step down and no further; a second call, of the backing, brings it to the next.
func TestP8OneStepDown(t *testing.T) {
	s := newStore(t, 4000)
	makeImage(t, s, "a", 2, "", overlay.OK)
	makeImage(t, s, "b", 2, "a", overlay.OK)
	makeImage(t, s, "c", 2, "b", overlay.OK)
	write(t, s, "c", 4, "12345678", overlay.OK)
	commit(t, s, "c", overlay.OK)
	data := "\x00\x00\x00\x0012345678\x00\x00\x00\x00"
	dump(t, s, "a", picture("", "oo", ""), overlay.OK)
	dump(t, s, "b", picture("a", "dd", data), overlay.OK)
	dump(t, s, "c", picture("b", "oo", ""), overlay.OK)
	commit(t, s, "b", overlay.OK)
	dump(t, s, "a", picture("", "dd", data), overlay.OK)
	dump(t, s, "b", picture("a", "oo", ""), overlay.OK)
	dump(t, s, "c", picture("b", "oo", ""), overlay.OK)
	commit(t, s, "a", overlay.ErrBelow)
	read(t, s, "c", 0, 16, data, overlay.OK)
}

// To the byte: a backing that grows by two clusters has two bytes more; data only moves.
func TestP8NeedsRoom(t *testing.T) {
	lower, upper := picture("", "o", ""), picture("a", "ozd", ownBytes)
	for room := len(lower) + len(upper); room < len(lower)+len(upper)+4; room++ {
		s := newStore(t, room)
		load(t, s, "a", lower, overlay.OK)
		load(t, s, "b", upper, overlay.OK)
		if room < len(lower)+len(upper)+2 {
			commit(t, s, "b", overlay.ErrFull)
			dump(t, s, "a", lower, overlay.OK)
			dump(t, s, "b", upper, overlay.OK)
			continue
		}
		commit(t, s, "b", overlay.OK)
		dump(t, s, "a", picture("", "ozd", ownBytes), overlay.OK)
		dump(t, s, "b", picture("a", "ooo", ""), overlay.OK)
	}
}

// With ErrFull also what is lost in either file is still there.
func TestP8WithErrFullNothingIsWritten(t *testing.T) {
	lower := "OV\x01\x01\x01c\x02\x0212345678abcdefgh"
	upper := "OV\x01\x1e\x01a" + strings.Repeat("\xff", 29) + "\x01\x01ABCDEFGH"
	bottom := "OV\x01\x01\x00\x00\x01lostlost"
	// 29 entries more, and 16 bytes fewer, since the data of a and what it has lost go: 13 bytes more in all.
	s := newStore(t, len(lower)+len(upper)+len(bottom)+12)
	load(t, s, "c", bottom, overlay.OK)
	load(t, s, "a", lower, overlay.OK)
	load(t, s, "b", upper, overlay.OK)
	before := state(s)
	commit(t, s, "b", overlay.ErrFull)
	if state(s) != before {
		t.Errorf("the store has changed with ErrFull")
	}
	dump(t, s, "a", lower, overlay.OK)
	dump(t, s, "b", upper, overlay.OK)
	load(t, s, "c", over(""), overlay.OK)
	commit(t, s, "b", overlay.OK)
	check(t, s, "a", "1,29,0,0", overlay.OK)
}

// What counts is what is left at the end: in a full store data still moves down, and what is lost makes room.
func TestP8InAFullStore(t *testing.T) {
	lower, upper := picture("", "ooo", ""), picture("a", "ddd", ownBytes)
	s := newStore(t, len(lower)+len(upper))
	load(t, s, "a", lower, overlay.OK)
	load(t, s, "b", upper, overlay.OK)
	load(t, s, "c", "x", overlay.ErrFull)
	commit(t, s, "b", overlay.OK)
	dump(t, s, "a", picture("", "ddd", ownBytes), overlay.OK)
	load(t, s, "c", "x", overlay.ErrFull)
	for _, files := range [][2]string{
		{over(""), "OV\x01\x09\x01a" + noughts(9) + "\x01lostlost"},
		{"OV\x01\x01\x00\x00\x01lostlost", "OV\x01\x09\x01a" + noughts(9) + "\x00"},
	} {
		s := newStore(t, len(files[0])+len(files[1]))
		load(t, s, "a", files[0], overlay.OK)
		load(t, s, "b", files[1], overlay.OK)
		commit(t, s, "b", overlay.OK)
		dump(t, s, "a", "OV\x01\x09\x00"+noughts(10), overlay.OK)
		load(t, s, "c", "x", overlay.ErrFull)
	}
}

func TestP8OfOneWithoutABacking(t *testing.T) {
	for _, file := range []string{picture("", "ozd", ownBytes), "OV\x01\x01\x00\x00\x01lostlost"} {
		s := newStore(t, len(file))
		load(t, s, "a", file, overlay.OK)
		commit(t, s, "a", overlay.ErrBelow)
		dump(t, s, "a", file, overlay.OK)
	}
}

func TestP8OfWhatIsNotThere(t *testing.T) {
	s := newStore(t, 4000)
	makeImage(t, s, "a", 1, "", overlay.OK)
	for _, name := range []string{"", "b", "A", "a,b", "abcdefghi"} {
		commit(t, s, name, overlay.ErrNone)
	}
}

func TestP8OfWhatIsNotSound(t *testing.T) {
	for _, c := range unsound {
		s := newStore(t, 4000)
		loadAll(t, s, c.files)
		before := state(s)
		commit(t, s, "a", c.want)
		if state(s) != before {
			t.Errorf("%s: the store has changed", c.what)
		}
	}
}
