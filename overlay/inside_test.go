package overlay

import (
	"errors"
	"slices"
	"strconv"
	"strings"
	"testing"
	"time"
	"unsafe"
)

func TestErrorsTellTheWay(t *testing.T) {
	s := &Store{room: maxStore}
	s.files.put("c", "OV\x01\x01\x01b\x00\x00")
	s.files.put("b", "OV\x01\x01\x01a\x00\x00")
	s.files.put("a", "OV")
	_, err := s.openChain("c")
	if !errors.Is(err, errCorrupt) || errors.Is(err, errMissing) || errors.Is(err, errCycle) {
		t.Errorf("the fixed error is not errCorrupt alone: %v", err)
	}
	if want := "through c: through b: at a: " + errCorrupt.Error(); err.Error() != want {
		t.Errorf("error %q, want %q", err.Error(), want)
	}
	var f *fault
	if !errors.As(err, &f) || f.where != "a" {
		t.Errorf("errors.As finds %v, want the fault at a", f)
	}
}

func TestByName(t *testing.T) {
	var k byName[int]
	for i, name := range []string{"c", "a", "b", "a"} {
		k.put(name, i)
	}
	names := func() string {
		var out []string
		for name := range k.all() {
			out = append(out, name)
		}
		return strings.Join(out, ",")
	}
	if names() != "c,a,b" || k.count() != 3 {
		t.Errorf("names %q, count %d", names(), k.count())
	}
	if n, ok := k.get("a"); n != 3 || !ok {
		t.Errorf("get of a: %d, %v", n, ok)
	}
	if n, ok := k.get("d"); n != 0 || ok || k.has("d") {
		t.Errorf("get of d: %d, %v", n, ok)
	}
	other := k.copied()
	other.put("a", 7)
	other.put("d", 8)
	other.drop("c")
	if n, _ := k.get("a"); n != 3 || names() != "c,a,b" {
		t.Errorf("after changes to a copy: names %q, a is %d", names(), n)
	}
	k.drop("d")
	k.drop("c")
	if names() != "a,b" || k.has("c") {
		t.Errorf("names after drop: %q", names())
	}
	for name := range k.all() {
		if name != "a" {
			t.Errorf("the first is %q", name)
		}
		break
	}
	for name := range k.backward() {
		if name != "b" {
			t.Errorf("the last is %q", name)
		}
		break
	}
}

func TestAlong(t *testing.T) {
	pairs := func(upper run[int], lower run[string]) string {
		out := ""
		for u, l := range along(upper, lower) {
			out += strconv.Itoa(u) + l + ";"
		}
		return out
	}
	for _, c := range []struct {
		upper run[int]
		lower run[string]
		want  string
	}{
		{nil, nil, ""},
		{nil, run[string]{"a"}, ""},
		{run[int]{1, 2}, nil, "1;2;"},
		{run[int]{1, 2}, run[string]{"a"}, "1a;2;"},
		{run[int]{1, 2}, run[string]{"a", "b"}, "1a;2b;"},
		{run[int]{1, 2}, run[string]{"a", "b", "c"}, "1a;2b;"},
	} {
		if got := pairs(c.upper, c.lower); got != c.want {
			t.Errorf("along(%v, %v) tells %q, want %q", c.upper, c.lower, got, c.want)
		}
	}
	for u := range along(run[int]{1, 2}, run[int]{}) {
		if u != 1 {
			t.Errorf("the first is %d", u)
		}
		break
	}
}

func TestUnlike(t *testing.T) {
	for _, c := range []struct {
		one, other run[byte]
		places     []int
		first      int
	}{
		{nil, nil, nil, -1},
		{nil, run[byte]{0, 0}, nil, -1},
		{nil, run[byte]{0, 1}, nil, 1},
		{run[byte]{0, 1, 2}, nil, []int{1, 2}, 1},
		{run[byte]{1, 2, 0}, run[byte]{1}, []int{1}, 1},
		{run[byte]{1, 2, 3}, run[byte]{0, 2, 4}, []int{0, 2}, 0},
		{run[byte]{1, 2}, run[byte]{1, 2, 0, 5}, nil, 3},
		{run[byte]{1, 2}, run[byte]{1, 2}, nil, -1},
	} {
		if got := slices.Collect(unlike(c.one, c.other)); !slices.Equal(got, c.places) {
			t.Errorf("unlike(%v, %v) tells %v, want %v", c.one, c.other, got, c.places)
		}
		if got := firstUnlike(c.one, c.other); got != c.first {
			t.Errorf("firstUnlike(%v, %v) = %d, want %d", c.one, c.other, got, c.first)
		}
		if got := firstUnlike(c.other, c.one); got != c.first {
			t.Errorf("firstUnlike(%v, %v) = %d, want %d", c.other, c.one, got, c.first)
		}
	}
}

func TestPlainForm(t *testing.T) {
	for _, c := range []struct{ file, plain string }{
		{"OV\x01\x01\x00\x00\x00", "OV\x01\x01\x00\x00\x00"},
		{"OV\x01\x02\x01b\x02\x01\x0212345678abcdefgh", "OV\x01\x02\x01b\x01\x02\x02abcdefgh12345678"},
		{"OV\x01\x03\x00\xff\x03\x00\x0312345678abcdefghABCDEFGH", "OV\x01\x03\x00\xff\x01\x00\x01ABCDEFGH"},
		{"OV\x01\x01\x08abcdefgh\x00\x0112345678", "OV\x01\x01\x08abcdefgh\x00\x00"},
	} {
		m, err := parseImage(c.file)
		if err != nil || m.file() != c.plain {
			t.Errorf("plain form of %q is %q (%v), want %q", c.file, m.file(), err, c.plain)
		}
	}
}

// While the store is held by somebody no call may get through; each must have ended once it is let go.
func TestP2CallsWaitForTheMutex(t *testing.T) {
	s := &Store{room: maxStore}
	calls := map[string]func(){
		"Make":    func() { s.Make("a", 1, "") },
		"Load":    func() { s.Load("b", "x") },
		"Dump":    func() { s.Dump("a") },
		"Drop":    func() { s.Drop("a") },
		"Chain":   func() { s.Chain("a") },
		"Check":   func() { s.Check("a") },
		"Read":    func() { s.Read("a", 0, 1) },
		"Write":   func() { s.Write("a", 0, "x") },
		"Zero":    func() { s.Zero("a", 0, 1) },
		"Discard": func() { s.Discard("a", 0, 8) },
		"Commit":  func() { s.Commit("a") },
		"Rebase":  func() { s.Rebase("a", "b") },
		"Flatten": func() { s.Flatten("a") },
		"Compare": func() { s.Compare("a", "b") },
	}
	ended := make(chan string, len(calls))
	s.mutex.Lock()
	for name, call := range calls {
		go func() {
			call()
			ended <- name
		}()
	}
	time.Sleep(50 * time.Millisecond)
	early := len(ended)
	for range early {
		t.Errorf("%s did not wait", <-ended)
	}
	s.mutex.Unlock()
	for range len(calls) - early {
		<-ended
	}
}

// Every way out of a call, with an error or without, lets the store go.
func TestP2CallsLetTheMutexGo(t *testing.T) {
	s := &Store{room: 20}
	free := func(what string) {
		t.Helper()
		if !s.mutex.TryLock() {
			t.Fatalf("%s did not let the store go", what)
		}
		s.mutex.Unlock()
	}
	for _, name := range []string{"A", "a", "a", "b", "c"} {
		for _, clusters := range []int{0, 1, 30} {
			for _, backing := range []string{"", "a", "none"} {
				s.Make(name, clusters, backing)
				free("Make")
			}
		}
		for _, file := range []string{"OV", strings.Repeat("x", 21), strings.Repeat("x", 1001)} {
			s.Load(name, file)
			free("Load")
			s.Dump(name)
			free("Dump")
			s.Chain(name)
			free("Chain")
			s.Check(name)
			free("Check")
		}
		for _, file := range []string{"OV\x01\x02\x00\x00\x00\x00", "OV\x01\x02\x01a\x00\x00\x00", "OV"} {
			s.Load(name, file)
			for _, p := range []span{{-1, 0}, {0, 0}, {0, 1}, {0, 8}, {0, 16}, {0, 17}} {
				s.Read(name, p.from, p.many)
				free("Read")
				s.Write(name, p.from, strings.Repeat("x", p.many))
				free("Write")
				s.Zero(name, p.from, p.many)
				free("Zero")
				s.Discard(name, p.from, p.many)
				free("Discard")
			}
			for _, other := range []string{"", "a", "b", "none"} {
				s.Commit(name)
				free("Commit")
				s.Compare(name, other)
				free("Compare")
				s.Rebase(name, other)
				free("Rebase")
				s.Flatten(name)
				free("Flatten")
			}
		}
		s.Drop(name)
		free("Drop")
		s.Drop(name)
		free("Drop of none")
	}
}

// What is handed in is not kept, and no answer is a piece of it.
func TestTextsAreCopied(t *testing.T) {
	s := &Store{room: maxStore}
	name, file := strings.Clone("a"), strings.Clone("OV\x01\x01\x00\x00\x00")
	apart := func(what, one, other string) {
		t.Helper()
		if one != other || unsafe.StringData(one) == unsafe.StringData(other) {
			t.Errorf("%s: %q is no copy of %q", what, one, other)
		}
	}
	s.Load(name, file)
	apart("the name that is kept", s.files.rows[0].name, name)
	dumped, _ := s.Dump(name)
	apart("Dump", dumped, file)
	names, _, _ := s.Chain(name)
	apart("Chain", names, name)
	s.Load(name, "OV")
	_, where, _ := s.Chain(name)
	apart("where", where, name)
}
