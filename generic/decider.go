package generic

import (
	"burin/api"
	"burin/arith"
)

// decider is who decides: it is handed the bit that stands there, and tells the one that is to stand there. One that is refused panics with the error's number.
type decider interface {
	decide(context, bit int) int
}

// coding lets each bit be what it is.
type coding struct {
	c *arith.Coder
}

func (who coding) decide(context, bit int) int {
	if err := who.c.Put(context, bit); err != api.OK {
		panic(err)
	}
	return bit
}

// decoding knows of no bit ahead of the decision.
type decoding struct {
	d *arith.Decoder
}

func (who decoding) decide(context, _ int) int {
	bit, err := who.d.Get(context)
	if err != api.OK {
		panic(err)
	}
	return bit
}
