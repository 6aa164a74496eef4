package overlay

import (
	"iter"
	"slices"
	"strings"
)

// byName keeps things by their names and tells them in the order in which they came. A store and a chain have a handful of names at most, so a search from the front is all it needs.
type byName[T any] struct {
	rows []row[T]
}

type row[T any] struct {
	name  string
	thing T
}

func (k *byName[T]) count() int { return len(k.rows) }

// place is below 0 if there is nothing of this name.
func (k *byName[T]) place(name string) int {
	return slices.IndexFunc(k.rows, func(r row[T]) bool { return r.name == name })
}

func (k *byName[T]) has(name string) bool { return k.place(name) >= 0 }

func (k *byName[T]) get(name string) (T, bool) {
	at := k.place(name)
	if at < 0 {
		var none T
		return none, false
	}
	return k.rows[at].thing, true
}

// put copies the name, which may be a piece of a caller's long text.
func (k *byName[T]) put(name string, thing T) {
	if at := k.place(name); at >= 0 {
		k.rows[at].thing = thing
		return
	}
	k.rows = append(k.rows, row[T]{strings.Clone(name), thing})
}

func (k *byName[T]) drop(name string) {
	if at := k.place(name); at >= 0 {
		k.rows = slices.Delete(k.rows, at, at+1)
	}
}

// copied answers one that can be changed, or thrown away, without this one.
func (k *byName[T]) copied() byName[T] {
	return byName[T]{slices.Clone(k.rows)}
}

func (k *byName[T]) all() iter.Seq2[string, T] {
	return func(yield func(string, T) bool) {
		for _, r := range k.rows {
			if !yield(r.name, r.thing) {
				return
			}
		}
	}
}

func (k *byName[T]) backward() iter.Seq2[string, T] {
	return func(yield func(string, T) bool) {
		for _, r := range slices.Backward(k.rows) {
			if !yield(r.name, r.thing) {
				return
			}
		}
	}
}
