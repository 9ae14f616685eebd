package segment

import (
	"burin/api"
	"burin/bits"
)

const headMost = 4*api.MaxSegments + 13 // bytes: of each reference three as a Var, and a bit; of all the rest thirteen

// header tells the bytes of the header of a segment that may be.
func header(s api.Segment) []byte {
	w, _ := bits.NewWriter(headMost)
	w.Var(uint64(s.Number))
	w.Put(uint64(s.Kind), 8)
	w.Var(uint64(s.Page))
	w.Var(uint64(len(s.Refs)))
	for _, ref := range s.Refs {
		w.Var(uint64(ref))
	}
	for _, keep := range s.Keep {
		putFlag(w, keep)
	}
	putFlag(w, s.Stay)
	w.Align()
	w.Var(uint64(len(s.Data)))
	return w.Bytes()
}

func putFlag(w *bits.Writer, flag bool) {
	bit := uint64(0)
	if flag {
		bit = 1
	}
	w.Put(bit, 1)
}
