package generic

import (
	"slices"

	"burin/api"
	"burin/context"
)

const (
	wordWidth = 64 // pixels of a word
	above     = 2  // rows above a pixel's own that its context hangs on
)

// procedure says in which contexts of a coder a bitmap is coded: the template's, and behind them the skip's.
type procedure struct {
	base     int
	template int
	size     int // the template's contexts
	own      int // the bits of a context that are pixels of the row itself
	skip     bool
}

func newProcedure(base, template int, skip bool) (procedure, api.Errno) {
	size, err := context.Size(template)
	if err != api.OK {
		return procedure{}, err
	}
	return procedure{base: base, template: template, size: size, own: ownBits(template), skip: skip}, api.OK
}

// ownBits asks behind a black row with nothing above, so that the places of each template stay one package's.
func ownBits(template int) int {
	black := api.Bitmap{W: wordWidth, H: 1, Bits: []uint64{1<<wordWidth - 1}}
	own, _ := context.At(black, template, wordWidth, 0)
	return own
}

// count tells how many contexts the procedure has.
func (p procedure) count() int {
	return p.size + 1
}

// fits takes the count from the coder's contexts: base may be as great as an int is.
func (p procedure) fits(contexts int) bool {
	return p.base >= 0 && p.base <= contexts-p.count()
}

// through goes through a bitmap's rows, whoever decides, and leaves in it what was decided.
func through[D decider](who D, p procedure, b api.Bitmap) (err api.Errno) {
	defer func() {
		if refusal := recover(); refusal != nil {
			err = refusal.(api.Errno)
		}
	}()
	stride := len(b.Bits) / b.H
	up := make([]uint64, stride)
	for y := range b.H {
		row := b.Bits[y*stride : (y+1)*stride]
		if !p.skip || !p.repeats(who, row, up) {
			p.pixels(who, row, p.contexts(b, y))
		}
		up = row
	}
	return api.OK
}

// repeats decides whether a row is the one above again.
func (p procedure) repeats(who decider, row, up []uint64) bool {
	same := 0
	if slices.Equal(row, up) {
		same = 1
	}
	if who.decide(p.base+p.size, same) == 0 {
		return false
	}
	copy(row, up)
	return true
}

// contexts tells those of a row as it stands. It hands on no more rows than they hang on, since all that is handed on is checked.
func (p procedure) contexts(b api.Bitmap, y int) []int {
	first := max(0, y-above)
	stride := len(b.Bits) / b.H
	near := api.Bitmap{W: b.W, H: y + 1 - first, Bits: b.Bits[first*stride : (y+1)*stride]}
	contexts, _ := context.Row(near, p.template, y-first)
	return contexts
}

// pixels decides a row's pixels from the left. The contexts are those of the row as it stood, so each takes the pixels that have come since.
func (p procedure) pixels(who decider, row []uint64, contexts []int) {
	came := 0
	for x, stood := range contexts {
		word, shift := &row[x/wordWidth], wordWidth-1-x%wordWidth
		bit := who.decide(p.base+(stood|came), int(*word>>shift&1))
		*word |= uint64(bit) << shift
		came = (came<<1 | bit) & p.own
	}
}
