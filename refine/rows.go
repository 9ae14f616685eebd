package refine

import "burin/api"

const wordWidth = 64 // pixels of a word

// row answers who asks for pixels of a bitmap's row, as they stand then, as if it were shifted to the right; what lies outside is white.
func row(b api.Bitmap, y, shift int) func(x int) int {
	if y < 0 || y >= b.H {
		return func(int) int { return 0 }
	}
	words := wordsOf(b, y)
	return func(x int) int {
		x -= shift
		if x < 0 || x >= b.W {
			return 0
		}
		return int(words[x/wordWidth] >> shiftOf(x) & 1)
	}
}

// three is the pixels about one of a row, and itself, as a number.
func three(at func(x int) int, x int) int {
	return at(x-1)<<2 | at(x)<<1 | at(x+1)
}

func wordsOf(b api.Bitmap, y int) []uint64 {
	stride := len(b.Bits) / b.H
	return b.Bits[y*stride : (y+1)*stride]
}

// shiftOf tells how far a pixel stands from its word's lowest bit.
func shiftOf(x int) int {
	return wordWidth - 1 - x%wordWidth
}
