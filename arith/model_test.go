package arith_test

import (
	"bytes"
	"fmt"
	"strings"
	"sync"
	"testing"

	"burin/api"
	"burin/arith"
)

// chapter is the chapter's table, as it stands there.
const chapter = `
| 0 | 5601 1 1 * | 12 | 1c01 13 20 | 24 | 1c01 25 22 | 36 | 0221 37 34 |
| 1 | 3401 2 6 | 13 | 1601 29 21 | 25 | 1801 26 23 | 37 | 0141 38 35 |
| 2 | 1801 3 9 | 14 | 5601 15 14 * | 26 | 1601 27 24 | 38 | 0111 39 36 |
| 3 | 0ac1 4 12 | 15 | 5401 16 14 | 27 | 1401 28 25 | 39 | 0085 40 37 |
| 4 | 0521 5 29 | 16 | 5101 17 15 | 28 | 1201 29 26 | 40 | 0049 41 38 |
| 5 | 0221 38 33 | 17 | 4801 18 16 | 29 | 1101 30 27 | 41 | 0025 42 39 |
| 6 | 5601 7 6 * | 18 | 3801 19 17 | 30 | 0ac1 31 28 | 42 | 0015 43 40 |
| 7 | 5401 8 14 | 19 | 3401 20 18 | 31 | 09c1 32 29 | 43 | 0009 44 41 |
| 8 | 4801 9 14 | 20 | 3001 21 19 | 32 | 08a1 33 30 | 44 | 0005 45 42 |
| 9 | 3801 10 14 | 21 | 2801 22 19 | 33 | 0521 34 31 | 45 | 0001 45 43 |
| 10 | 3001 11 17 | 22 | 2401 23 20 | 34 | 0441 35 32 | 46 | 5601 46 46 |
| 11 | 2401 12 18 | 23 | 2201 24 21 | 35 | 02a1 36 33 | | |`

type state struct {
	q          uint64
	more, less int
	change     bool
}

// chapterStates reads the chapter's table.
var chapterStates = sync.OnceValue(func() []state {
	states := make([]state, 47)
	for _, line := range strings.Split(strings.TrimSpace(chapter), "\n") {
		fields := strings.Split(line, "|")
		for i := 1; i+1 < len(fields); i += 2 {
			var n int
			var s state
			if _, err := fmt.Sscan(fields[i], &n); err != nil {
				continue
			}
			fmt.Sscanf(strings.TrimSpace(fields[i+1]), "%x %d %d", &s.q, &s.more, &s.less)
			s.change = strings.Contains(fields[i+1], "*")
			states[n] = s
		}
	}
	return states
})

// contexts are a model's: states and likelier bits apart.
type contexts struct {
	states []state
	index  []int
	likely []int
}

func newContexts(n int) contexts {
	return contexts{chapterStates(), make([]int, n), make([]int, n)}
}

func (x *contexts) place(context int) int {
	n := len(x.index)
	return (context%n + n) % n
}

func (x *contexts) asLikely(cx int) {
	x.index[cx] = x.states[x.index[cx]].more
}

func (x *contexts) asOther(cx int) {
	s := x.states[x.index[cx]]
	if s.change {
		x.likely[cx] = 1 - x.likely[cx]
	}
	x.index[cx] = s.less
}

func (x *contexts) told() []byte {
	var b []byte
	for i := range x.index {
		b = append(b, byte(2*x.index[i]+x.likely[i]))
	}
	return b
}

// modelCoder codes word for word as the chapter says it, each branch by itself.
type modelCoder struct {
	contexts
	a, c uint64
	t    int
	out  []byte
}

func newModelCoder(n int) *modelCoder {
	return &modelCoder{contexts: newContexts(n), a: 0x8000, t: 12}
}

func (m *modelCoder) put(context, bit int) {
	cx := m.place(context)
	q := m.states[m.index[cx]].q
	m.a -= q
	if bit == m.likely[cx] {
		if m.a >= 0x8000 {
			m.c += q
			return
		}
		if m.a < q {
			m.a = q
		} else {
			m.c += q
		}
		m.asLikely(cx)
	} else {
		if m.a < q {
			m.c += q
		} else {
			m.a = q
		}
		m.asOther(cx)
	}
	m.renewed()
}

func (m *modelCoder) renewed() {
	for {
		m.a, m.c, m.t = m.a*2, m.c*2, m.t-1
		if m.t == 0 {
			m.goesOut()
		}
		if m.a >= 0x8000 {
			return
		}
	}
}

func (m *modelCoder) goesOut() {
	n := len(m.out)
	switch {
	case n > 0 && m.out[n-1] == 0xff:
		m.short()
	case m.c < 0x8000000:
		m.long()
	case n > 0 && m.out[n-1] == 0xfe:
		m.out[n-1] = 0xff
		m.c %= 1 << 27
		m.short()
	default:
		m.out[n-1]++
		m.c %= 1 << 27
		m.long()
	}
}

func (m *modelCoder) long() {
	m.out = append(m.out, byte(m.c/(1<<19)%256))
	m.c, m.t = m.c%(1<<19), 8
}

func (m *modelCoder) short() {
	m.out = append(m.out, byte(m.c/(1<<20)%256))
	m.c, m.t = m.c%(1<<20), 7
}

func (m *modelCoder) flush() []byte {
	t := m.c + m.a
	m.c = m.c/65536*65536 + 65535
	if m.c >= t {
		m.c -= 0x8000
	}
	m.c <<= m.t
	m.goesOut()
	m.c <<= m.t
	m.goesOut()
	return bytes.TrimSuffix(m.out, []byte{0xff})
}

// modelDecoder decodes word for word as the chapter says it.
type modelDecoder struct {
	contexts
	a, c uint64
	t    int
	in   []byte // with bytes 255 behind it as they are asked
	at   int
}

func newModelDecoder(b []byte, n int) *modelDecoder {
	m := &modelDecoder{contexts: newContexts(n), in: append(bytes.Clone(b), 0xff, 0xff), a: 0x8000}
	m.c = uint64(m.in[0]) * 65536
	m.comesIn()
	m.c, m.t = m.c<<7%(1<<32), m.t-7
	return m
}

func (m *modelDecoder) comesIn() {
	if m.in[m.at] == 0xff {
		if m.in[m.at+1] > 0x8f {
			m.c, m.t = m.c+0xff00, 8
		} else {
			m.at++
			m.c, m.t = m.c+uint64(m.in[m.at])*512, 7
		}
	} else {
		m.at++
		m.c, m.t = m.c+uint64(m.in[m.at])*256, 8
	}
	m.c %= 1 << 32
}

func (m *modelDecoder) get(context int) int {
	cx := m.place(context)
	q, bit := m.states[m.index[cx]].q, m.likely[cx]
	m.a -= q
	if m.c/65536 < q {
		if m.a < q {
			m.asLikely(cx)
		} else {
			bit = 1 - bit
			m.asOther(cx)
		}
		m.a = q
	} else {
		m.c -= q * 65536
		if m.a >= 0x8000 {
			return bit
		}
		if m.a < q {
			bit = 1 - bit
			m.asOther(cx)
		} else {
			m.asLikely(cx)
		}
	}
	for {
		if m.t == 0 {
			m.comesIn()
		}
		m.a, m.c, m.t = m.a*2, m.c*2%(1<<32), m.t-1
		if m.a >= 0x8000 {
			return bit
		}
	}
}

// dice is a row of numbers that is the same in each run.
type dice uint64

func (d *dice) below(n int) int {
	*d += 0x9e3779b97f4a7c15
	z := uint64(*d)
	z = (z ^ z>>30) * 0xbf58476d1ce4e5b9
	z = (z ^ z>>27) * 0x94d049bb133111eb
	return int((z ^ z>>31) % uint64(n))
}

type decision struct{ context, bit int }

// decisions are some by chance; the skew tells how much rarer a 1 is in the first context, and a 0 in the last one.
func (d *dice) decisions(n, contexts, skew int) []decision {
	l := make([]decision, n)
	for i := range l {
		cx := d.below(contexts)
		bit := 0
		if d.below(1+skew) == 0 {
			bit = 1
		}
		if cx%2 == 1 {
			bit = 1 - bit
		}
		l[i] = decision{cx + contexts*(d.below(5)-2), bit}
	}
	return l
}

// noise is bytes by chance, ff and what may stand behind it among them more often.
func (d *dice) noise(n int) []byte {
	b := make([]byte, n)
	for i := range b {
		b[i] = byte(d.below(256))
		if d.below(3) == 0 {
			b[i] = []byte{0, 0x7f, 0x80, 0x8f, 0x90, 0xfe, 0xff, 0xff, 0xff}[d.below(9)]
		}
	}
	return b
}

func newCoder(t *testing.T, n int) *arith.Coder {
	t.Helper()
	c, err := arith.New(n)
	if err != api.OK || c == nil {
		t.Fatalf("New(%d): error %d", n, err)
	}
	return c
}

func newDecoder(t *testing.T, b []byte, n int) *arith.Decoder {
	t.Helper()
	d, err := arith.NewDecoder(b, n)
	if err != api.OK || d == nil {
		t.Fatalf("NewDecoder over %d bytes, %d contexts: error %d", len(b), n, err)
	}
	return d
}

func wantPut(t *testing.T, c *arith.Coder, context, bit int, want api.Errno) {
	t.Helper()
	if err := c.Put(context, bit); err != want {
		t.Fatalf("Put(%d, %d): error %d, want %d", context, bit, err, want)
	}
}

func wantGet(t *testing.T, d *arith.Decoder, context, want int, wantErr api.Errno) {
	t.Helper()
	if bit, err := d.Get(context); bit != want || err != wantErr {
		t.Fatalf("Get(%d): %d, error %d, want %d, error %d", context, bit, err, want, wantErr)
	}
}

func wantFlush(t *testing.T, c *arith.Coder, want []byte, wantErr api.Errno) {
	t.Helper()
	if b, err := c.Flush(); !bytes.Equal(b, want) || err != wantErr {
		t.Fatalf("Flush: %.100x, error %d, want %.100x, error %d", b, err, want, wantErr)
	}
}

func wantStates(t *testing.T, got, want []byte) {
	t.Helper()
	if !bytes.Equal(got, want) {
		t.Fatalf("States: %v, want %v", got, want)
	}
}
