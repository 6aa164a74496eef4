package overlay_test

import (
	"strings"
	"testing"

	"overlay/overlay"
)

func TestP6Examples(t *testing.T) {
	s := newStore(t, 200)
	makeImage(t, s, "a", 2, "", overlay.OK)
	write(t, s, "a", 3, "xyz", overlay.OK)
	dump(t, s, "a", "OV\x01\x02\x00\x01\x00\x01\x00\x00\x00xyz\x00\x00", overlay.OK)
	read(t, s, "a", 2, 5, "\x00xyz\x00", overlay.OK)
	makeImage(t, s, "b", 3, "a", overlay.OK)
	dump(t, s, "b", "OV\x01\x03\x01a\x00\x00\x00\x00", overlay.OK)
	read(t, s, "b", 0, 24, "\x00\x00\x00xyz"+noughts(18), overlay.OK)
	write(t, s, "b", 6, "pq34", overlay.OK)
	dump(t, s, "b", "OV\x01\x03\x01a\x01\x02\x00\x02\x00\x00\x00xyzpq34"+noughts(6), overlay.OK)
	chain(t, s, "b", "b,a", "", overlay.OK)
}

// Each kind of cluster over each other one, in a chain of three; what counts is the first that is not open.
func TestP6ReadThroughAChain(t *testing.T) {
	s := newStore(t, 4000)
	load(t, s, "a", "OV\x01\x09\x00\x01\xff\x00\x02\xff\x00\x03\xff\x00\x03aaaaaaaaAAAAAAAA11111111", overlay.OK)
	load(t, s, "b", "OV\x01\x09\x01a\x01\x02\x03\xff\xff\xff\x00\x00\x00\x03bbbbbbbbBBBBBBBB22222222", overlay.OK)
	view := "bbbbbbbb" + "BBBBBBBB" + "22222222" + noughts(24) + "11111111" + noughts(16)
	read(t, s, "b", 0, 72, view, overlay.OK)
	load(t, s, "c", "OV\x01\x09\x01b\x00\x00\x00\x00\x00\x00\x00\x00\x00\x00", overlay.OK)
	read(t, s, "c", 0, 72, view, overlay.OK)
	load(t, s, "c", "OV\x01\x09\x01b\xff\x01\x00\x00\x02\x00\xff\x03\x00\x03ccccccccCCCCCCCC33333333", overlay.OK)
	read(t, s, "c", 0, 72, noughts(8)+"cccccccc"+"22222222"+noughts(8)+"CCCCCCCC"+noughts(16)+"33333333"+noughts(8), overlay.OK)
	read(t, s, "a", 0, 72, "aaaaaaaa"+noughts(16)+"AAAAAAAA"+noughts(16)+"11111111"+noughts(16), overlay.OK)
}

func TestP6ReadBeyondTheBacking(t *testing.T) {
	s := newStore(t, 4000)
	load(t, s, "a", "OV\x01\x03\x00\x01\x02\x03\x03aaaaaaaaAAAAAAAA11111111", overlay.OK)
	load(t, s, "b", "OV\x01\x01\x01a\x00\x00", overlay.OK)
	load(t, s, "c", "OV\x01\x04\x01b\x00\x00\x00\x01\x01cccccccc", overlay.OK)
	read(t, s, "b", 0, 8, "aaaaaaaa", overlay.OK)
	read(t, s, "b", 0, 9, "", overlay.ErrArg)
	// What lies below where b ends is not seen through it.
	read(t, s, "c", 0, 32, "aaaaaaaa"+noughts(16)+"cccccccc", overlay.OK)
	load(t, s, "d", "OV\x01\x02\x01c\x00\x00\x00", overlay.OK)
	read(t, s, "d", 0, 16, "aaaaaaaa"+noughts(8), overlay.OK)
}

func TestP6ReadOfEveryRange(t *testing.T) {
	s := newStore(t, 4000)
	load(t, s, "a", "OV\x01\x03\x00\x02\xff\x01\x0212345678abcdefgh", overlay.OK)
	view := "abcdefgh" + noughts(8) + "12345678"
	for from := -2; from <= 26; from++ {
		for many := -2; many <= 28; many++ {
			if from < 0 || many < 0 || from+many > 24 {
				read(t, s, "a", from, many, "", overlay.ErrArg)
				continue
			}
			read(t, s, "a", from, many, view[from:from+many], overlay.OK)
		}
	}
}

// badSpans are no ranges of a view of 24 bytes; the sums of some wrap round.
var badSpans = [][2]int{
	{-1, 0}, {-1, 1}, {-1, 25}, {0, -1}, {24, -1}, {25, -1}, {1, -1}, {25, 0}, {24, 1}, {0, 25}, {23, 2}, {8, 17},
	{highest, 0}, {highest, 1}, {highest, highest}, {0, highest}, {1, highest}, {24, highest}, {1 << 62, 1 << 62},
	{lowest, 0}, {lowest, 1}, {lowest, lowest}, {lowest, highest}, {highest, lowest}, {0, lowest}, {-1, lowest}, {1 << 32, 0}, {1 << 32, 8}, {0, 1 << 32}, {256, 0}, {0, 256}, {256, 8},
}

func TestP6RangesThatMayNotBe(t *testing.T) {
	s := newStore(t, 4000)
	file := "OV\x01\x03\x00\x02\x00\x01\x0312345678abcdefghlostlost"
	load(t, s, "a", file, overlay.OK)
	for _, c := range badSpans {
		read(t, s, "a", c[0], c[1], "", overlay.ErrArg)
		if c[1] >= 0 && c[1] < 1000 {
			write(t, s, "a", c[0], strings.Repeat("x", c[1]), overlay.ErrArg)
		}
	}
	write(t, s, "a", 0, strings.Repeat("x", 1<<16), overlay.ErrArg)
	dump(t, s, "a", file, overlay.OK)
	makeImage(t, s, "b", 30, "a", overlay.OK)
	read(t, s, "b", 240, 0, "", overlay.OK)
	read(t, s, "b", 0, 240, "abcdefgh"+noughts(8)+"12345678"+noughts(216), overlay.OK)
	read(t, s, "b", 0, 241, "", overlay.ErrArg)
	read(t, s, "b", 241, 0, "", overlay.ErrArg)
	write(t, s, "b", 0, strings.Repeat("x", 241), overlay.ErrArg)
	write(t, s, "b", 239, "xy", overlay.ErrArg)
	write(t, s, "b", 0, strings.Repeat("x", 240), overlay.OK)
	read(t, s, "b", 0, 240, strings.Repeat("x", 240), overlay.OK)
}

// The size that counts is the image's own, not that of what is below it.
func TestP6TheViewIsTheImagesOwn(t *testing.T) {
	s := newStore(t, 4000)
	makeImage(t, s, "a", 3, "", overlay.OK)
	makeImage(t, s, "b", 1, "a", overlay.OK)
	write(t, s, "a", 0, "0123456789abcdef", overlay.OK)
	read(t, s, "b", 0, 8, "01234567", overlay.OK)
	read(t, s, "b", 8, 1, "", overlay.ErrArg)
	write(t, s, "b", 8, "x", overlay.ErrArg)
	makeImage(t, s, "c", 4, "b", overlay.OK)
	write(t, s, "c", 31, "x", overlay.OK)
	read(t, s, "c", 0, 32, "01234567"+noughts(23)+"x", overlay.OK)
}

// A write of each range: the clusters that it touches are data, the others stay open, and the view is as it was beside it.
func TestP6WriteOfEveryRange(t *testing.T) {
	below := "0123456789abcdefghijklmn"
	for from := range 25 {
		for many := 0; from+many <= 24; many++ {
			s := newStore(t, 4000)
			makeImage(t, s, "a", 3, "", overlay.OK)
			write(t, s, "a", 0, below, overlay.OK)
			makeImage(t, s, "b", 3, "a", overlay.OK)
			write(t, s, "b", from, strings.Repeat("X", many), overlay.OK)
			view := below[:from] + strings.Repeat("X", many) + below[from+many:]
			read(t, s, "b", 0, 24, view, overlay.OK)
			read(t, s, "a", 0, 24, below, overlay.OK)
			entries, data := "", ""
			for i := range 3 {
				touched := many > 0 && from/8 <= i && i <= (from+many-1)/8
				if !touched {
					entries += "\x00"
					continue
				}
				data += view[8*i : 8*i+8]
				entries += string(rune(len(data) / 8))
			}
			dump(t, s, "b", "OV\x01\x03\x01a"+entries+string(rune(len(data)/8))+data, overlay.OK)
		}
	}
}

// A write over each kind of cluster: also what reads the same, and noughts, make it data.
func TestP6WriteMakesData(t *testing.T) {
	s := newStore(t, 4000)
	load(t, s, "a", "OV\x01\x04\x00\x01\x00\x00\x00\x01aaaaaaaa", overlay.OK)
	load(t, s, "b", "OV\x01\x04\x01a\x00\xff\x01\x00\x01bbbbbbbb", overlay.OK)
	write(t, s, "b", 0, "a", overlay.OK)
	dump(t, s, "b", "OV\x01\x04\x01a\x01\xff\x02\x00\x02aaaaaaaabbbbbbbb", overlay.OK)
	write(t, s, "b", 15, "\x00", overlay.OK)
	dump(t, s, "b", "OV\x01\x04\x01a\x01\x02\x03\x00\x03aaaaaaaa"+noughts(8)+"bbbbbbbb", overlay.OK)
	write(t, s, "b", 16, noughts(16), overlay.OK)
	dump(t, s, "b", "OV\x01\x04\x01a\x01\x02\x03\x04\x04aaaaaaaa"+noughts(24), overlay.OK)
	dump(t, s, "a", "OV\x01\x04\x00\x01\x00\x00\x00\x01aaaaaaaa", overlay.OK)
}

func TestP6WriteIsPlain(t *testing.T) {
	s := newStore(t, 4000)
	file := "OV\x01\x04\x00\x03\x00\xff\x01\x0412345678lostlostabcdefgh********"
	load(t, s, "a", file, overlay.OK)
	check(t, s, "a", "2,1,1,2", overlay.OK)
	for from := range 33 {
		write(t, s, "a", from, "", overlay.OK)
	}
	dump(t, s, "a", file, overlay.OK)
	write(t, s, "a", 33, "", overlay.ErrArg)
	write(t, s, "a", 12, "xy", overlay.OK)
	dump(t, s, "a", "OV\x01\x04\x00\x01\x02\xff\x03\x03abcdefgh\x00\x00\x00\x00xy\x00\x0012345678", overlay.OK)
	check(t, s, "a", "3,1,0,0", overlay.OK)
	// A write that changes no byte writes the file all the same.
	load(t, s, "a", file, overlay.OK)
	write(t, s, "a", 0, "a", overlay.OK)
	dump(t, s, "a", "OV\x01\x04\x00\x01\x00\xff\x02\x02abcdefgh12345678", overlay.OK)
}

// What is below is written anew only when it is named itself.
func TestP6WriteLeavesWhatIsBelow(t *testing.T) {
	s := newStore(t, 4000)
	lost := "OV\x01\x02\x00\x02\x00\x0312345678abcdefghlostlost"
	load(t, s, "a", lost, overlay.OK)
	makeImage(t, s, "b", 2, "a", overlay.OK)
	makeImage(t, s, "c", 2, "b", overlay.OK)
	write(t, s, "c", 4, "12345678", overlay.OK)
	dump(t, s, "a", lost, overlay.OK)
	dump(t, s, "b", "OV\x01\x02\x01a\x00\x00\x00", overlay.OK)
	dump(t, s, "c", "OV\x01\x02\x01b\x01\x02\x02abcd12345678\x00\x00\x00\x00", overlay.OK)
	write(t, s, "a", 0, "ABCDEFGHIJKLMNOP", overlay.OK)
	read(t, s, "c", 0, 16, "abcd12345678\x00\x00\x00\x00", overlay.OK)
	read(t, s, "b", 0, 16, "ABCDEFGHIJKLMNOP", overlay.OK)
}

// To the byte: an image of 3 clusters has 9 bytes, and 8 more for each data cluster.
func TestP6WriteNeedsRoom(t *testing.T) {
	s := newStore(t, 30)
	makeImage(t, s, "a", 3, "", overlay.OK)
	load(t, s, "b", "123456", overlay.OK)
	write(t, s, "a", 7, "xy", overlay.ErrFull)
	dump(t, s, "a", "OV\x01\x03\x00\x00\x00\x00\x00", overlay.OK)
	dump(t, s, "b", "123456", overlay.OK)
	write(t, s, "a", 7, "x", overlay.OK)
	write(t, s, "a", 8, "y", overlay.ErrFull)
	write(t, s, "a", 24, "y", overlay.ErrArg)
	write(t, s, "a", 8, "", overlay.OK)
	write(t, s, "a", 0, "12345678", overlay.OK)
	dump(t, s, "a", "OV\x01\x03\x00\x01\x00\x00\x0112345678", overlay.OK)
	load(t, s, "b", "12345", overlay.OK)
	write(t, s, "a", 8, "y", overlay.OK)
	write(t, s, "a", 16, "y", overlay.ErrFull)
	drop(t, s, "b", overlay.OK)
	write(t, s, "a", 16, "y", overlay.ErrFull)
	read(t, s, "a", 0, 24, "12345678y"+noughts(15), overlay.OK)
}

// What is lost goes when the image is written, and so does its part of the room.
func TestP6WriteGivesLostRoomBack(t *testing.T) {
	s := newStore(t, 32)
	load(t, s, "a", "OV\x01\x02\x00\x00\x02\x0312345678abcdefghlostlost", overlay.OK)
	load(t, s, "b", "x", overlay.ErrFull)
	write(t, s, "a", 0, "x", overlay.OK)
	dump(t, s, "a", "OV\x01\x02\x00\x01\x02\x02x"+noughts(7)+"abcdefgh", overlay.OK)
	load(t, s, "b", "12345678", overlay.OK)
	load(t, s, "b", "123456789", overlay.ErrFull)
}

func TestP6OfWhatIsNotThere(t *testing.T) {
	s := newStore(t, 4000)
	makeImage(t, s, "a", 3, "", overlay.OK)
	for _, name := range []string{"", "b", "A", "a,b", "abcdefghi"} {
		read(t, s, name, 0, 1, "", overlay.ErrNone)
		read(t, s, name, -1, 0, "", overlay.ErrNone)
		write(t, s, name, 0, "x", overlay.ErrNone)
		write(t, s, name, 0, "", overlay.ErrNone)
		write(t, s, name, -1, "x", overlay.ErrNone)
	}
}

// An image that is not sound is neither read nor written, not even where its own clusters say all.
func TestP6OfWhatIsNotSound(t *testing.T) {
	for _, c := range unsound {
		s := newStore(t, 4000)
		loadAll(t, s, c.files)
		before := state(s)
		for _, from := range []int{-1, 0, 8, 100} {
			read(t, s, "a", from, 0, "", c.want)
			read(t, s, "a", from, 8, "", c.want)
			write(t, s, "a", from, "", c.want)
			write(t, s, "a", from, "12345678", c.want)
		}
		if state(s) != before {
			t.Errorf("%s: the store has changed", c.what)
		}
	}
}
