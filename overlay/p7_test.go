package overlay_test

import (
	"strings"
	"testing"

	"overlay/overlay"
)

func TestP7Examples(t *testing.T) {
	s := newStore(t, 200)
	makeImage(t, s, "a", 2, "", overlay.OK)
	write(t, s, "a", 3, "xyz", overlay.OK)
	makeImage(t, s, "b", 3, "a", overlay.OK)
	write(t, s, "b", 6, "pq34", overlay.OK)
	zero(t, s, "b", 8, 16, overlay.OK)
	dump(t, s, "b", "OV\x01\x03\x01a\x01\xff\xff\x01\x00\x00\x00xyzpq", overlay.OK)
	discard(t, s, "b", 0, 9, overlay.OK)
	dump(t, s, "b", "OV\x01\x03\x01a\xff\xff\xff\x00", overlay.OK)
	dump(t, s, "a", "OV\x01\x02\x00\x01\x00\x01\x00\x00\x00xyz\x00\x00", overlay.OK)
}

// eachRange calls try with every range of 24 bytes, and with which of the three clusters lie in it as a whole, and of which a part does.
func eachRange(try func(from, many int, whole, part [3]bool)) {
	for from := range 25 {
		for many := 0; from+many <= 24; many++ {
			var whole, part [3]bool
			for i := range 3 {
				inside := 0
				for b := 8 * i; b < 8*i+8; b++ {
					if from <= b && b < from+many {
						inside++
					}
				}
				whole[i], part[i] = inside == 8, inside > 0 && inside < 8
			}
			try(from, many, whole, part)
		}
	}
}

// everyKinds are all ways in which three clusters can be open, zero or data.
func everyKinds() []string {
	var all []string
	for _, a := range "ozd" {
		for _, b := range "ozd" {
			for _, c := range "ozd" {
				all = append(all, string([]rune{a, b, c}))
			}
		}
	}
	return all
}

const ownBytes, bytesBelow = "0123456789abcdefghijklmn", "ABCDEFGHIJKLMNOPQRSTUVWX"

// becomes is kinds with what each of the clusters became for which there is a letter.
func becomes(kinds string, changes map[rune][3]bool) string {
	out := []rune(kinds)
	for letter, which := range changes {
		for i := range out {
			if which[i] {
				out[i] = letter
			}
		}
	}
	return string(out)
}

func TestP7ZeroOfEveryRange(t *testing.T) {
	for _, backing := range []string{"", "a"} {
		below := noughts(24)
		if backing != "" {
			below = bytesBelow
		}
		for _, kinds := range everyKinds() {
			s := newStore(t, 4000)
			load(t, s, "a", picture("", "ddd", bytesBelow), overlay.OK)
			before := shown(kinds, ownBytes, below)
			eachRange(func(from, many int, whole, part [3]bool) {
				load(t, s, "b", picture(backing, kinds, ownBytes), overlay.OK)
				zero(t, s, "b", from, many, overlay.OK)
				view := before[:from] + noughts(many) + before[from+many:]
				read(t, s, "b", 0, 24, view, overlay.OK)
				after := becomes(kinds, map[rune][3]bool{'z': whole, 'd': part})
				dump(t, s, "b", picture(backing, after, view), overlay.OK)
			})
			dump(t, s, "a", picture("", "ddd", bytesBelow), overlay.OK)
		}
	}
}

func TestP7DiscardOfEveryRange(t *testing.T) {
	for backing, letter := range map[string]rune{"": 'o', "a": 'z'} {
		for _, kinds := range everyKinds() {
			s := newStore(t, 4000)
			load(t, s, "a", picture("", "ddd", bytesBelow), overlay.OK)
			eachRange(func(from, many int, whole, part [3]bool) {
				load(t, s, "b", picture(backing, kinds, ownBytes), overlay.OK)
				discard(t, s, "b", from, many, overlay.OK)
				after := becomes(kinds, map[rune][3]bool{letter: whole})
				dump(t, s, "b", picture(backing, after, ownBytes), overlay.OK)
			})
			dump(t, s, "a", picture("", "ddd", bytesBelow), overlay.OK)
		}
	}
}

// A discarded cluster reads as noughts, whatever lies below, and also where the backing ends ahead of it.
func TestP7DiscardReadsAsNoughts(t *testing.T) {
	s := newStore(t, 4000)
	load(t, s, "a", picture("", "ddd", bytesBelow), overlay.OK)
	makeImage(t, s, "b", 5, "a", overlay.OK)
	write(t, s, "b", 0, strings.Repeat("x", 40), overlay.OK)
	discard(t, s, "b", 4, 36, overlay.OK)
	dump(t, s, "b", "OV\x01\x05\x01a\x01\xff\xff\xff\xff\x01xxxxxxxx", overlay.OK)
	read(t, s, "b", 0, 40, "xxxxxxxx"+noughts(32), overlay.OK)
	discard(t, s, "a", 8, 8, overlay.OK)
	dump(t, s, "a", picture("", "dod", bytesBelow), overlay.OK)
	read(t, s, "a", 0, 24, "ABCDEFGH"+noughts(8)+"QRSTUVWX", overlay.OK)
}

// Part of what the clusters below show is kept when the other part is made noughts.
func TestP7ZeroKeepsWhatShinesThrough(t *testing.T) {
	s := newStore(t, 4000)
	load(t, s, "a", picture("", "ddd", bytesBelow), overlay.OK)
	makeImage(t, s, "b", 2, "a", overlay.OK)
	makeImage(t, s, "c", 4, "b", overlay.OK)
	zero(t, s, "c", 3, 26, overlay.OK)
	dump(t, s, "c", "OV\x01\x04\x01b\x01\xff\xff\x02\x02ABC"+noughts(13), overlay.OK)
	zero(t, s, "c", 0, 32, overlay.OK)
	dump(t, s, "c", "OV\x01\x04\x01b\xff\xff\xff\xff\x00", overlay.OK)
	zero(t, s, "c", 12, 1, overlay.OK)
	dump(t, s, "c", "OV\x01\x04\x01b\xff\x01\xff\xff\x01"+noughts(8), overlay.OK)
}

func TestP7RangesThatMayNotBe(t *testing.T) {
	s := newStore(t, 4000)
	file := "OV\x01\x03\x00\x02\x00\x01\x0312345678abcdefghlostlost"
	load(t, s, "a", file, overlay.OK)
	for _, c := range badSpans {
		zero(t, s, "a", c[0], c[1], overlay.ErrArg)
		discard(t, s, "a", c[0], c[1], overlay.ErrArg)
	}
	dump(t, s, "a", file, overlay.OK)
	makeImage(t, s, "b", 30, "a", overlay.OK)
	makeImage(t, s, "c", 1, "b", overlay.OK)
	zero(t, s, "b", 0, 241, overlay.ErrArg)
	zero(t, s, "c", 0, 9, overlay.ErrArg)
	zero(t, s, "c", 8, 1, overlay.ErrArg)
	discard(t, s, "b", 0, 241, overlay.ErrArg)
	discard(t, s, "c", 0, 9, overlay.ErrArg)
	zero(t, s, "b", 0, 240, overlay.OK)
	check(t, s, "b", "0,30,0,0", overlay.OK)
	discard(t, s, "b", 0, 240, overlay.OK)
	check(t, s, "b", "0,30,0,0", overlay.OK)
}

// With nothing to do the file stays as it is, lost clusters and all; with something it is plain.
func TestP7FilesWithLostClusters(t *testing.T) {
	s := newStore(t, 4000)
	for backing, letter := range map[string]string{"": "\x00", "b": "\xff"} {
		load(t, s, "b", over(""), overlay.OK)
		head := "OV\x01\x04" + string(rune(len(backing))) + backing
		file := head + "\x03\x00\xff\x01\x0412345678lostlostabcdefgh********"
		load(t, s, "a", file, overlay.OK)
		for from := range 33 {
			zero(t, s, "a", from, 0, overlay.OK)
			discard(t, s, "a", from, 0, overlay.OK)
			discard(t, s, "a", from, min(7, 32-from), overlay.OK)
		}
		discard(t, s, "a", 1, 14, overlay.OK)
		discard(t, s, "a", 17, 14, overlay.OK)
		dump(t, s, "a", file, overlay.OK)
		zero(t, s, "a", 16, 8, overlay.OK)
		dump(t, s, "a", head+"\x01\x00\xff\x02\x02abcdefgh12345678", overlay.OK)
		load(t, s, "a", file, overlay.OK)
		zero(t, s, "a", 31, 1, overlay.OK)
		dump(t, s, "a", head+"\x01\x00\xff\x02\x02abcdefgh1234567\x00", overlay.OK)
		load(t, s, "a", file, overlay.OK)
		discard(t, s, "a", 7, 10, overlay.OK)
		dump(t, s, "a", head+"\x01"+letter+"\xff\x02\x02abcdefgh12345678", overlay.OK)
		load(t, s, "a", file, overlay.OK)
		discard(t, s, "a", 0, 8, overlay.OK)
		dump(t, s, "a", head+letter+"\x00\xff\x01\x0112345678", overlay.OK)
	}
}

// A cluster in part needs room, one as a whole gives it back; what counts is what is left at the end.
func TestP7ZeroNeedsRoom(t *testing.T) {
	s := newStore(t, 30)
	makeImage(t, s, "a", 3, "", overlay.OK)
	load(t, s, "b", "123456", overlay.OK)
	zero(t, s, "a", 7, 2, overlay.ErrFull)
	dump(t, s, "a", picture("", "ooo", ""), overlay.OK)
	dump(t, s, "b", "123456", overlay.OK)
	zero(t, s, "a", 24, 1, overlay.ErrArg)
	zero(t, s, "a", 7, 9, overlay.OK)
	dump(t, s, "a", picture("", "dzo", noughts(24)), overlay.OK)
	zero(t, s, "a", 8, 9, overlay.ErrFull)
	zero(t, s, "a", 0, 17, overlay.OK)
	dump(t, s, "a", picture("", "zzd", noughts(24)), overlay.OK)
	load(t, s, "b", "12345", overlay.OK)
	zero(t, s, "a", 7, 9, overlay.OK)
	dump(t, s, "a", picture("", "dzd", noughts(24)), overlay.OK)
	zero(t, s, "a", 15, 1, overlay.ErrFull)
	dump(t, s, "a", picture("", "dzd", noughts(24)), overlay.OK)
}

// Discard takes no room, so it is done in a store that is full to the last byte.
func TestP7DiscardInAFullStore(t *testing.T) {
	for _, backing := range []string{"", "b"} {
		s := newStore(t, 60)
		load(t, s, "b", over(""), overlay.OK)
		file := picture(backing, "ddd", ownBytes)
		load(t, s, "a", file, overlay.OK)
		load(t, s, "c", strings.Repeat("x", 60-7-len(file)), overlay.OK)
		load(t, s, "d", "x", overlay.ErrFull)
		discard(t, s, "a", 0, 7, overlay.OK)
		dump(t, s, "a", file, overlay.OK)
		discard(t, s, "a", 0, 8, overlay.OK)
		load(t, s, "d", "12345678", overlay.OK)
		load(t, s, "d", "123456789", overlay.ErrFull)
		discard(t, s, "a", 0, 8, overlay.OK)
	}
}

func TestP7OfWhatIsNotThere(t *testing.T) {
	s := newStore(t, 4000)
	makeImage(t, s, "a", 3, "", overlay.OK)
	for _, name := range []string{"", "b", "A", "a,b", "abcdefghi"} {
		for _, from := range []int{-1, 0, 100} {
			zero(t, s, name, from, 8, overlay.ErrNone)
			zero(t, s, name, from, 0, overlay.ErrNone)
			discard(t, s, name, from, 8, overlay.ErrNone)
			discard(t, s, name, from, 0, overlay.ErrNone)
		}
	}
}

func TestP7OfWhatIsNotSound(t *testing.T) {
	for _, c := range unsound {
		s := newStore(t, 4000)
		loadAll(t, s, c.files)
		before := state(s)
		for _, from := range []int{-1, 0, 8, 100} {
			for _, many := range []int{-1, 0, 1, 8} {
				zero(t, s, "a", from, many, c.want)
				discard(t, s, "a", from, many, c.want)
			}
		}
		if state(s) != before {
			t.Errorf("%s: the store has changed", c.what)
		}
	}
}
