// Package number: scalars and elements, the two kinds of numbers that the program reckons with, and how lists of them are taken together.
package number

// Together joins a list into one; a list of none comes to first, so first is what changes nothing.
func Together[T any](join func(T, T) T, first T, list ...T) T {
	all := first
	for _, x := range list {
		all = join(all, x)
	}
	return all
}

// Pairwise joins the numbers of two lists that stand at the same place, as far as both go.
func Pairwise[A, B, C any](join func(A, B) C, left []A, right []B) []C {
	out := make([]C, min(len(left), len(right)))
	for i := range out {
		out[i] = join(left[i], right[i])
	}
	return out
}

// All reads a whole list as numbers of one kind, into new memory; if one is not of the kind there is no list.
func All[T any](read func(uint64) (T, bool), list []uint64) ([]T, bool) {
	out := make([]T, len(list))
	for i, x := range list {
		v, ok := read(x)
		if !ok {
			return nil, false
		}
		out[i] = v
	}
	return out, true
}

// Plain is the way back from All: numbers of one kind as they are handed out.
func Plain[T ~uint64](list []T) []uint64 {
	out := make([]uint64, len(list))
	for i, x := range list {
		out[i] = uint64(x)
	}
	return out
}

// power squares and multiplies: an exponent may be as great as Q, too great to multiply step by step.
func power[T any](times func(T, T) T, one T, base T, exponent uint64) T {
	out := one
	for ; exponent > 0; exponent >>= 1 {
		if exponent&1 == 1 {
			out = times(out, base)
		}
		base = times(base, base)
	}
	return out
}
