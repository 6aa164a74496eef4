package overlay_test

import (
	"math/rand/v2"
	"slices"
	"strconv"
	"strings"
	"testing"

	"overlay/overlay"
)

func TestP5Chain(t *testing.T) {
	s := newStore(t, 4000)
	makeImage(t, s, "a", 2, "", overlay.OK)
	makeImage(t, s, "b", 3, "a", overlay.OK)
	makeImage(t, s, "c", 1, "b", overlay.OK)
	makeImage(t, s, "other", 1, "a", overlay.OK)
	chain(t, s, "a", "a", "", overlay.OK)
	chain(t, s, "b", "b,a", "", overlay.OK)
	chain(t, s, "c", "c,b,a", "", overlay.OK)
	chain(t, s, "other", "other,a", "", overlay.OK)
	for _, name := range []string{"", "d", "A", "a,b", "c,b,a", "abcdefghi"} {
		chain(t, s, name, "", "", overlay.ErrNone)
	}
}

func TestP5LongestChain(t *testing.T) {
	s := newStore(t, 4000)
	below := ""
	var names []string
	for _, name := range []string{"h", "g", "f", "e", "d", "c", "b", "abcdefgh"} {
		makeImage(t, s, name, 30, below, overlay.OK)
		below = name
		names = append([]string{name}, names...)
	}
	chain(t, s, "abcdefgh", strings.Join(names, ","), "", overlay.OK)
	load(t, s, "h", over("abcdefgh"), overlay.OK)
	chain(t, s, "abcdefgh", "", "h", overlay.ErrCycle)
	chain(t, s, "d", "", "c", overlay.ErrCycle)
	drop(t, s, "h", overlay.OK)
	chain(t, s, "abcdefgh", "", "g", overlay.ErrMissing)
}

func TestP5WhereItWentWrong(t *testing.T) {
	s := newStore(t, 4000)
	makeImage(t, s, "a", 2, "", overlay.OK)
	makeImage(t, s, "b", 3, "a", overlay.OK)
	makeImage(t, s, "c", 1, "b", overlay.OK)
	drop(t, s, "a", overlay.OK)
	chain(t, s, "c", "", "b", overlay.ErrMissing)
	chain(t, s, "b", "", "b", overlay.ErrMissing)
	chain(t, s, "a", "", "", overlay.ErrNone)
	load(t, s, "a", "OV", overlay.OK)
	chain(t, s, "c", "", "a", overlay.ErrCorrupt)
	chain(t, s, "b", "", "a", overlay.ErrCorrupt)
	chain(t, s, "a", "", "a", overlay.ErrCorrupt)
	load(t, s, "a", over("c"), overlay.OK)
	chain(t, s, "c", "", "a", overlay.ErrCycle)
	chain(t, s, "b", "", "c", overlay.ErrCycle)
	chain(t, s, "a", "", "b", overlay.ErrCycle)
	load(t, s, "a", over("b"), overlay.OK)
	chain(t, s, "c", "", "a", overlay.ErrCycle)
	chain(t, s, "b", "", "a", overlay.ErrCycle)
	chain(t, s, "a", "", "b", overlay.ErrCycle)
	load(t, s, "a", over("a"), overlay.OK)
	chain(t, s, "c", "", "a", overlay.ErrCycle)
	chain(t, s, "a", "", "a", overlay.ErrCycle)
	load(t, s, "b", "", overlay.OK)
	chain(t, s, "c", "", "b", overlay.ErrCorrupt)
}

// wantChain goes down as the document says it, without the program's own parts.
func wantChain(backings map[string]string, name string) (string, string, overlay.Errno) {
	if _, ok := backings[name]; !ok {
		return "", "", overlay.ErrNone
	}
	var met []string
	for {
		if backings[name] == "no image" {
			return "", name, overlay.ErrCorrupt
		}
		met = append(met, name)
		next := backings[name]
		if next == "" {
			return strings.Join(met, ","), "", overlay.OK
		}
		if slices.Contains(met, next) {
			return "", name, overlay.ErrCycle
		}
		if _, ok := backings[next]; !ok {
			return "", name, overlay.ErrMissing
		}
		name = next
	}
}

func TestP5ChainsOfAllKinds(t *testing.T) {
	random := rand.New(rand.NewPCG(5, 8))
	names := []string{"a", "b", "c", "d", "e", "f", "g", "h", "i"}
	for range 3000 {
		s := newStore(t, 4000)
		backings := map[string]string{}
		for _, name := range names[:random.IntN(9)] {
			switch backing := names[random.IntN(len(names))]; random.IntN(8) {
			case 0:
				backings[name] = ""
				load(t, s, name, over(""), overlay.OK)
			case 1:
				backings[name] = "no image"
				load(t, s, name, over(backing)+"x", overlay.OK)
			default:
				backings[name] = backing
				load(t, s, name, over(backing), overlay.OK)
			}
		}
		for _, name := range names {
			want, where, e := wantChain(backings, name)
			chain(t, s, name, want, where, e)
		}
	}
}

func TestP5Check(t *testing.T) {
	s := newStore(t, 4000)
	for _, c := range []struct{ file, want string }{
		{over(""), "0,0,1,0"},
		{"OV\x01\x03\x00\xff\x00\xff\x00", "0,2,1,0"},
		{"OV\x01\x04\x00\x00\xff\x01\x00\x0112345678", "1,1,2,0"},
		{"OV\x01\x02\x00\x02\x01\x0212345678abcdefgh", "2,0,0,0"},
		{"OV\x01\x02\x00\x02\x00\x0312345678abcdefgh********", "1,0,1,2"},
		{"OV\x01\x01\x00\x00\x3c" + strings.Repeat("x", 480), "0,0,1,60"},
		{"OV\x01\x1e\x00" + strings.Repeat("\xff", 30) + "\x00", "0,30,0,0"},
		{"OV\x01\x1e\x08abcdefgh" + strings.Repeat("\x00", 30) + "\x3c" + strings.Repeat("x", 480), "0,0,30,60"},
	} {
		load(t, s, "a", c.file, overlay.OK)
		check(t, s, "a", c.want, overlay.OK)
	}
	for _, name := range []string{"", "b", "A", "abcdefghi"} {
		check(t, s, name, "", overlay.ErrNone)
	}
}

// Check asks of the file alone, whatever is below it.
func TestP5CheckOfWhatIsNotSound(t *testing.T) {
	s := newStore(t, 4000)
	load(t, s, "a", over("none"), overlay.OK)
	check(t, s, "a", "0,0,1,0", overlay.OK)
	load(t, s, "a", over("a"), overlay.OK)
	check(t, s, "a", "0,0,1,0", overlay.OK)
	load(t, s, "b", "OV", overlay.OK)
	load(t, s, "a", over("b"), overlay.OK)
	check(t, s, "a", "0,0,1,0", overlay.OK)
	check(t, s, "b", "", overlay.ErrCorrupt)
}

func TestP5AlmostImages(t *testing.T) {
	s := newStore(t, 4000)
	for what, file := range map[string]string{
		"empty":                           "",
		"first letter":                    "oV\x01\x01\x00\x00\x00",
		"second letter":                   "Ov\x01\x01\x00\x00\x00",
		"version 0":                       "OV\x00\x01\x00\x00\x00",
		"version 2":                       "OV\x02\x01\x00\x00\x00",
		"no clusters":                     "OV\x01\x00\x00\x00",
		"31 clusters":                     "OV\x01\x1f\x00" + strings.Repeat("\x00", 31) + "\x00",
		"a backing's name of 9":           "OV\x01\x01\x09abcdefghi\x00\x00",
		"a backing's name with A":         "OV\x01\x01\x01A\x00\x00",
		"a backing's name with a nought":  "OV\x01\x01\x02a\x00\x00\x00",
		"an entry too few":                "OV\x01\x02\x00\x00\x00",
		"an entry too many":               "OV\x01\x01\x00\x00\x00\x00",
		"no number of data":               "OV\x01\x01\x00\x00",
		"61 data clusters":                "OV\x01\x01\x00\x00\x3d" + strings.Repeat("x", 488),
		"an entry without its data":       "OV\x01\x01\x00\x01\x00",
		"an entry one above the data":     "OV\x01\x01\x00\x02\x0112345678",
		"an entry of 254":                 "OV\x01\x01\x00\xfe\x0112345678",
		"an entry of 61 with 60":          "OV\x01\x01\x00\x3d\x3c" + strings.Repeat("x", 480),
		"two entries of one data cluster": "OV\x01\x02\x00\x01\x01\x0112345678",
		"the same, others between":        "OV\x01\x04\x00\x02\xff\x01\x02\x0212345678abcdefgh",
		"a byte of data too few":          "OV\x01\x01\x00\x01\x011234567",
		"a byte behind":                   "OV\x01\x01\x00\x01\x01123456789",
		"a data cluster too few":          "OV\x01\x01\x00\x01\x0212345678",
		"a data cluster behind":           "OV\x01\x01\x00\x01\x0112345678abcdefgh",
		"sizes beyond the file":           "OV\x01\xff\xff",
	} {
		load(t, s, "a", file, overlay.OK)
		if c, e := s.Check("a"); c != "" || e != overlay.ErrCorrupt {
			t.Errorf("%s: Check = %q, %d, want ErrCorrupt", what, c, e)
		}
		if c, w, e := s.Chain("a"); c != "" || w != "a" || e != overlay.ErrCorrupt {
			t.Errorf("%s: Chain = %q, %q, %d, want ErrCorrupt at a", what, c, w, e)
		}
	}
}

// wantCheck reads the form as the document says it, byte by byte, without the program's own parts.
func wantCheck(f string) (string, overlay.Errno) {
	if len(f) < 5 || f[:3] != "OV\x01" || f[3] < 1 || f[3] > 30 || f[4] > 8 {
		return "", overlay.ErrCorrupt
	}
	size, long := int(f[3]), int(f[4])
	if len(f) < 5+long+size+1 || strings.Trim(f[5:5+long], "abcdefghijklmnopqrstuvwxyz0123456789") != "" {
		return "", overlay.ErrCorrupt
	}
	entries, many := f[5+long:5+long+size], int(f[5+long+size])
	if many > 60 || len(f) != 5+long+size+1+8*many {
		return "", overlay.ErrCorrupt
	}
	data := 0
	for n := 1; n <= 254; n++ {
		uses := strings.Count(entries, string([]byte{byte(n)}))
		if uses > 1 || uses == 1 && n > many {
			return "", overlay.ErrCorrupt
		}
		data += uses
	}
	out := []int{data, strings.Count(entries, "\xff"), strings.Count(entries, "\x00"), many - data}
	var words []string
	for _, n := range out {
		words = append(words, strconv.Itoa(n))
	}
	return strings.Join(words, ","), overlay.OK
}

// Every byte of some images at every value, every length of them, and a byte more.
func TestP5EveryByteOfTheForm(t *testing.T) {
	s := newStore(t, 4000)
	try := func(file string) {
		load(t, s, "a", file, overlay.OK)
		want, e := wantCheck(file)
		if c, got := s.Check("a"); c != want || got != e {
			t.Errorf("Check of %q = %q, %d, want %q, %d", file, c, got, want, e)
		}
	}
	for _, file := range []string{
		over(""), over("b"), over("abcdefgh"),
		"OV\x01\x05\x02b9\x00\x02\xff\x01\x00\x0312345678abcdefgh\x00\x00\x00\x00\x00\x00\x00\x00",
		"OV\x01\x1e\x08abcdefgh" + strings.Repeat("\x00", 29) + "\x01\x3c" + strings.Repeat("x", 480),
	} {
		try(file)
		try(file + "\x00")
		try(file + "12345678")
		for i := range file {
			try(file[:i])
			for b := range 256 {
				try(file[:i] + string([]byte{byte(b)}) + file[i+1:])
			}
		}
	}
}
