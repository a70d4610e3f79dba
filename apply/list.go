package apply

import "slices"

// What is handed in is not to be written, and what a list has behind its end may be another's.
// So a list that changes is a copy; and what is kept of one has its end as a third index, so that
// whatever is put behind it goes elsewhere.

// set is l, with x at the place k that it has.
func set[T any](l []T, k int, x T) []T {
	m := make([]T, len(l))
	copy(m, l)
	m[k] = x
	return m
}

// put is l, with x at the place k, what stood there and behind one place further.
func put[T any](l []T, k int, x T) []T {
	return append(append(l[:k:k], x), l[k:]...)
}

// cut is l without what stands at the place k.
func cut[T any](l []T, k int) []T {
	return append(l[:k:k], l[k+1:]...)
}

// withEdge is edges that rise, with one that is not there.
func withEdge(succ []int, to int) []int {
	k, _ := slices.BinarySearch(succ, to)
	return put(succ, k, to)
}

// withoutEdge is edges that rise, without one, if it is there.
func withoutEdge(succ []int, to int) []int {
	k, there := slices.BinarySearch(succ, to)
	if !there {
		return succ
	}
	return cut(succ, k)
}
