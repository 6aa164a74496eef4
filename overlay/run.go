package overlay

import "iter"

// run is what stands at the clusters of an image, in their order: the clusters, what a view has there, or this byte by byte.
type run[T any] []T

// at answers beyond the end what a new one is: for a view, noughts.
func (r run[T]) at(place int) T {
	if place < len(r) {
		return r[place]
	}
	var none T
	return none
}

// along goes through the upper run and tells with each what the lower one has at the same place, however long that one is.
func along[U, L any](upper run[U], lower run[L]) iter.Seq2[U, L] {
	return func(yield func(U, L) bool) {
		for i, u := range upper {
			if !yield(u, lower.at(i)) {
				return
			}
		}
	}
}

// unlike tells the places of the upper run at which the lower one has something else.
func unlike[T comparable](upper run[T], lower run[T]) iter.Seq[int] {
	return func(yield func(int) bool) {
		for i, u := range upper {
			if u != lower.at(i) && !yield(i) {
				return
			}
		}
	}
}

// firstUnlike is the first place at which the two are not the same, the shorter one being followed by new things; -1 if there is none.
func firstUnlike[T comparable](one run[T], other run[T]) int {
	if len(one) < len(other) {
		one, other = other, one
	}
	for place := range unlike(one, other) {
		return place
	}
	return -1
}
