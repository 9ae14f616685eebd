package codec

import (
	"cmp"

	"burin/api"
	"burin/plan"
)

// attempt makes something, or is refused.
type attempt[T any] func() (T, api.Errno)

// attempts encode pages, with each of several options.
func attempts(pages []api.Bitmap, l []api.Options) []attempt[[]byte] {
	var all []attempt[[]byte]
	for _, o := range l {
		all = append(all, func() ([]byte, api.Errno) { return Encode(pages, o) })
	}
	return all
}

// least goes through attempts up to the first one that is refused, and keeps the first one of those that make what is least. No more than that and the latest one is held: all of them together may be far more than is told.
func least[T any, S cmp.Ordered](all []attempt[T], sizeOf func(T) S) (best int, kept T, err api.Errno) {
	var none T
	for i, one := range all {
		made, err := one()
		if err != api.OK {
			return 0, none, err
		}
		if i == 0 || sizeOf(made) < sizeOf(kept) {
			best, kept = i, made
		}
	}
	return best, kept, api.OK
}

func length(f []byte) int {
	return len(f)
}

func mayBe(l []api.Options) bool {
	for _, o := range l {
		if !plan.Check(o) {
			return false
		}
	}
	return len(l) > 0
}
