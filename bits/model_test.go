package bits_test

import (
	"math/big"
	"strings"

	"burin/api"
)

// digits is n in base 2 with width digits.
func digits(n uint64, width int) string {
	if width == 0 {
		return ""
	}
	text := new(big.Int).SetUint64(n).Text(2)
	return strings.Repeat("0", width-len(text)) + text
}

// varText is the groups of n in base 2.
func varText(n uint64) string {
	if n < 128 {
		return digits(n, 8)
	}
	return digits(n%128+128, 8) + varText(n/128)
}

// packed is the bytes that a text of noughts and ones makes.
func packed(text string) []byte {
	b := make([]byte, (len(text)+7)/8)
	for i, c := range text {
		if c == '1' {
			b[i/8] += 1 << (7 - i%8)
		}
	}
	return b
}

func unpacked(b []byte) string {
	text := ""
	for _, c := range b {
		text += digits(uint64(c), 8)
	}
	return text
}

// model reads a text of noughts and ones, the plainest way.
type model struct {
	text string
}

func (m *model) left() int {
	return len(m.text)
}

func (m *model) take(width int) (uint64, api.Errno) {
	if width < 0 || width > 64 {
		return 0, api.ErrBitsWidth
	}
	if width > len(m.text) {
		return 0, api.ErrBitsEnd
	}
	n := uint64(0)
	for _, c := range m.text[:width] {
		n = 2*n + uint64(c-'0')
	}
	m.text = m.text[width:]
	return n, api.OK
}

func (m *model) takeVar() (uint64, api.Errno) {
	n := new(big.Int)
	rest := m.text
	for i := uint(0); len(rest) >= 8; i++ {
		group, more := new(big.Int), rest[0] == '1'
		group.SetString(rest[1:8], 2)
		n.Add(n, new(big.Int).Lsh(group, 7*i))
		rest = rest[8:]
		if !n.IsUint64() || i == 9 && more || i > 0 && !more && group.Sign() == 0 {
			return 0, api.ErrBitsForm
		}
		if !more {
			m.text = rest
			return n.Uint64(), api.OK
		}
	}
	return 0, api.ErrBitsEnd
}

func (m *model) align() api.Errno {
	pad := len(m.text) % 8
	if strings.Contains(m.text[:pad], "1") {
		return api.ErrBitsPad
	}
	m.text = m.text[pad:]
	return api.OK
}

// dice is a row of numbers that is the same in each run.
type dice uint64

func (d *dice) below(n int) int {
	return int(d.word() % uint64(n))
}

func (d *dice) word() uint64 {
	*d += 0x9e3779b97f4a7c15
	z := uint64(*d)
	z = (z ^ z>>30) * 0xbf58476d1ce4e5b9
	z = (z ^ z>>27) * 0x94d049bb133111eb
	return z ^ z>>31
}
