package arith

import "burin/api"

// table is what a coder and a decoder share: contexts, and how many decisions were made in them.
type table struct {
	cells []cell
	made  int
}

func isTable(contexts int) bool {
	return 1 <= contexts && contexts <= api.MaxContexts
}

func newTable(contexts int) table {
	return table{cells: make([]cell, contexts)}
}

// Contexts tells how many contexts there are.
func (t *table) Contexts() int {
	return len(t.cells)
}

// States tells of each context twice its state, and its likelier bit.
func (t *table) States() []byte {
	states := make([]byte, len(t.cells))
	for i, at := range t.cells {
		states[i] = byte(at)
	}
	return states
}

func (t *table) isFull() bool {
	return t.made == api.MaxDecisions
}

// next tells the context of the decision that is made now.
func (t *table) next(context int) *cell {
	t.made++
	place := context % len(t.cells)
	if place < 0 {
		place += len(t.cells)
	}
	return &t.cells[place]
}

// cell is a context: twice its state, and its likelier bit.
type cell byte

func newCell(state, likelier byte) cell {
	return cell(2*state + likelier)
}

func (at *cell) likelier() byte {
	return byte(*at % 2)
}

func (at *cell) row() row {
	return rowOf(int(*at / 2))
}

// learn goes on to the next state, behind the likelier bit or behind the other one.
func (at *cell) learn(likely bool) {
	r, likelier := at.row(), at.likelier()
	if likely {
		*at = newCell(r.more, likelier)
		return
	}
	if r.turns {
		likelier = 1 - likelier
	}
	*at = newCell(r.less, likelier)
}

// row is what a state says.
type row struct {
	size  uint32
	more  byte // the next state behind the likelier bit
	less  byte // the next state behind the other one
	turns bool // whether the likelier bit changes then
}

func rowOf(state int) row {
	return [...]row{
		{0x5601, 1, 1, true}, {0x3401, 2, 6, false}, {0x1801, 3, 9, false}, {0x0ac1, 4, 12, false},
		{0x0521, 5, 29, false}, {0x0221, 38, 33, false}, {0x5601, 7, 6, true}, {0x5401, 8, 14, false},
		{0x4801, 9, 14, false}, {0x3801, 10, 14, false}, {0x3001, 11, 17, false}, {0x2401, 12, 18, false},
		{0x1c01, 13, 20, false}, {0x1601, 29, 21, false}, {0x5601, 15, 14, true}, {0x5401, 16, 14, false},
		{0x5101, 17, 15, false}, {0x4801, 18, 16, false}, {0x3801, 19, 17, false}, {0x3401, 20, 18, false},
		{0x3001, 21, 19, false}, {0x2801, 22, 19, false}, {0x2401, 23, 20, false}, {0x2201, 24, 21, false},
		{0x1c01, 25, 22, false}, {0x1801, 26, 23, false}, {0x1601, 27, 24, false}, {0x1401, 28, 25, false},
		{0x1201, 29, 26, false}, {0x1101, 30, 27, false}, {0x0ac1, 31, 28, false}, {0x09c1, 32, 29, false},
		{0x08a1, 33, 30, false}, {0x0521, 34, 31, false}, {0x0441, 35, 32, false}, {0x02a1, 36, 33, false},
		{0x0221, 37, 34, false}, {0x0141, 38, 35, false}, {0x0111, 39, 36, false}, {0x0085, 40, 37, false},
		{0x0049, 41, 38, false}, {0x0025, 42, 39, false}, {0x0015, 43, 40, false}, {0x0009, 44, 41, false},
		{0x0005, 45, 42, false}, {0x0001, 45, 43, false}, {0x5601, 46, 46, false},
	}[state]
}
