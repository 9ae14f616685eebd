package file

import (
	"burin/api"
	"burin/bits"
	"burin/segment"
)

// What a file begins with.
const (
	magic        = "BUR\x01"
	sequential   = 0
	randomAccess = 1
	beginMost    = len(magic) + 2 // bytes: a number up to MaxPages takes one as a Var
)

// fileBytes tells the bytes of segments that may be a file's.
func fileBytes(l []api.Segment, random bool) []byte {
	f := beginning(countPages(l), random)
	for _, s := range l {
		h, _ := segment.Encode(s)
		f = append(f, h...)
		if !random {
			f = append(f, s.Data...)
		}
	}
	if random {
		for _, s := range l {
			f = append(f, s.Data...)
		}
	}
	return f
}

func beginning(pages int, random bool) []byte {
	w, _ := bits.NewWriter(beginMost)
	for _, c := range []byte(magic) {
		w.Put(uint64(c), 8)
	}
	if random {
		w.Put(randomAccess, 8)
	} else {
		w.Put(sequential, 8)
	}
	w.Var(uint64(pages))
	return w.Bytes()
}
