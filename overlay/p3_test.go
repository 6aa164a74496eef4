package overlay_test

import (
	"strings"
	"testing"

	"overlay/overlay"
)

func TestP3New(t *testing.T) {
	for _, room := range []int{lowest, -4000, -1, 4001, highest} {
		if s, e := overlay.New(room); s != nil || e != overlay.ErrArg {
			t.Errorf("New(%d) = %v, %d, want nil, ErrArg", room, s, e)
		}
	}
	for _, room := range []int{0, 1, 3999, 4000} {
		s := newStore(t, room)
		for _, name := range someNames {
			dump(t, s, name, "", overlay.ErrNone)
		}
	}
}

func TestP3RoomOfNought(t *testing.T) {
	s := newStore(t, 0)
	load(t, s, "a", "x", overlay.ErrFull)
	load(t, s, "a", "", overlay.OK)
	dump(t, s, "a", "", overlay.OK)
	makeImage(t, s, "b", 1, "", overlay.ErrFull)
}

func TestP3GreatestRoom(t *testing.T) {
	s := newStore(t, 4000)
	full := strings.Repeat("x", 1000)
	for _, name := range []string{"a", "b", "c", "d"} {
		load(t, s, name, full, overlay.OK)
	}
	load(t, s, "e", "x", overlay.ErrFull)
	load(t, s, "e", "", overlay.OK)
}

func TestP3Names(t *testing.T) {
	for _, c := range []struct {
		name string
		want overlay.Errno
	}{
		{"", overlay.ErrName}, {"a", overlay.OK}, {"z", overlay.OK}, {"0", overlay.OK}, {"9", overlay.OK},
		{"abcdefg", overlay.OK}, {"abcdefgh", overlay.OK}, {"zyx98765", overlay.OK}, {"abcdefghi", overlay.ErrName}, {"123456789", overlay.ErrName},
		{"abcdefg-", overlay.ErrName}, {"Abc", overlay.ErrName}, {"a c", overlay.ErrName}, {"a\x00", overlay.ErrName}, {"\u0430", overlay.ErrName}, {"a\xff", overlay.ErrName},
	} {
		s := newStore(t, 100)
		load(t, s, c.name, "x", c.want)
		makeImage(t, newStore(t, 100), c.name, 1, "", c.want)
		if c.want == overlay.OK {
			dump(t, s, c.name, "x", overlay.OK)
		} else {
			dump(t, s, c.name, "", overlay.ErrNone)
		}
	}
}

func TestP3EveryByteInAName(t *testing.T) {
	const good = "abcdefghijklmnopqrstuvwxyz0123456789"
	for b := range 256 {
		text := string([]byte{byte(b)})
		want := overlay.ErrName
		if strings.Contains(good, text) {
			want = overlay.OK
		}
		for _, name := range []string{text, "a" + text, text + "a", "abc" + text + "efg"} {
			load(t, newStore(t, 0), name, "", want)
		}
	}
}

func TestP3FilesOfAnyBytes(t *testing.T) {
	s := newStore(t, 4000)
	all := make([]byte, 256)
	for i := range all {
		all[i] = byte(i)
	}
	for _, file := range []string{"", "\x00", string(all), "\xff\xfe\xc0", strings.Repeat("\x00", 999), strings.Repeat("y", 1000)} {
		load(t, s, "a", file, overlay.OK)
		dump(t, s, "a", file, overlay.OK)
	}
	load(t, s, "a", strings.Repeat("x", 1001), overlay.ErrArg)
	load(t, s, "b", strings.Repeat("x", 1001), overlay.ErrArg)
	dump(t, s, "a", strings.Repeat("y", 1000), overlay.OK)
	dump(t, s, "b", "", overlay.ErrNone)
}

func TestP3EightFiles(t *testing.T) {
	s := newStore(t, 100)
	fill(t, s, 8)
	load(t, s, "a", "", overlay.ErrArg)
	load(t, s, "fill7", "new", overlay.OK)
	dump(t, s, "fill7", "new", overlay.OK)
	load(t, s, "fill0", "first", overlay.OK)
	dump(t, s, "fill0", "first", overlay.OK)
	drop(t, s, "fill3", overlay.OK)
	load(t, s, "a", "eighth", overlay.OK)
	load(t, s, "fill3", "", overlay.ErrArg)
	for _, name := range []string{"fill1", "fill2", "fill4", "fill5", "fill6"} {
		dump(t, s, name, "", overlay.OK)
	}
	dump(t, s, "a", "eighth", overlay.OK)
}

func TestP3RoomJustEnough(t *testing.T) {
	s := newStore(t, 10)
	load(t, s, "a", "01234567890", overlay.ErrFull)
	load(t, s, "a", "0123456789", overlay.OK)
	load(t, s, "b", "x", overlay.ErrFull)
	load(t, s, "a", "0123", overlay.OK)
	load(t, s, "b", "1234567", overlay.ErrFull)
	load(t, s, "b", "123456", overlay.OK)
	load(t, s, "a", "01234", overlay.ErrFull)
	dump(t, s, "a", "0123", overlay.OK)
	dump(t, s, "b", "123456", overlay.OK)
}

func TestP3Drop(t *testing.T) {
	s := newStore(t, 100)
	for _, name := range someNames {
		drop(t, s, name, overlay.ErrNone)
	}
	makeImage(t, s, "a", 1, "", overlay.OK)
	makeImage(t, s, "b", 1, "a", overlay.OK)
	makeImage(t, s, "c", 1, "b", overlay.OK)
	drop(t, s, "a", overlay.OK)
	dump(t, s, "a", "", overlay.ErrNone)
	dump(t, s, "b", over("a"), overlay.OK)
	dump(t, s, "c", over("b"), overlay.OK)
	drop(t, s, "a", overlay.ErrNone)
	load(t, s, "a", "again", overlay.OK)
	dump(t, s, "a", "again", overlay.OK)
}
