package pbm

import (
	"bytes"

	"burin/api"
	"burin/bitmap"
)

const (
	end        = -1      // what stands behind the last byte
	mostNumber = 1 << 31 // numbers above it are read as it, so that none wraps
)

// reader goes through a file's bytes from left to right. At the first fault it ends by panic, with the number of the error.
type reader struct {
	f  []byte
	at int // the byte that comes next
}

func (r *reader) file() api.Bitmap {
	mark := r.mark()
	w := r.number()
	h := r.number()
	m, err := bitmap.New(w, h)
	if err != api.OK {
		panic(api.ErrPbmArea)
	}
	if mark == bytesMark {
		r.rows(m)
	} else {
		r.digits(m)
	}
	return m.Plain()
}

// mark passes what tells the file's kind.
func (r *reader) mark() string {
	for _, mark := range []string{textMark, bytesMark} {
		if bytes.HasPrefix(r.f, []byte(mark)) {
			r.at = len(mark)
			return mark
		}
	}
	panic(api.ErrPbmForm)
}

// number passes a gap of at least a byte and the digits behind it.
func (r *reader) number() int {
	n, from := 0, r.at
	r.gap()
	if r.at == from || !isDigit(r.look()) {
		panic(api.ErrPbmForm)
	}
digit:
	n = min(10*n+r.look()-'0', mostNumber)
	r.at++
	if isDigit(r.look()) {
		goto digit
	}
	return n
}

// gap passes white bytes and remarks, as many as there are.
func (r *reader) gap() {
between:
	switch c := r.look(); {
	case c == '#':
		goto remark
	case isWhite(c):
		r.at++
		goto between
	}
	return
remark:
	// the LF that ends a remark is passed as a white byte
	switch r.look() {
	case '\n':
		goto between
	case end:
		return
	}
	r.at++
	goto remark
}

// digits reads the pixels of a file of digits. None of them can stand right behind the height: it would be a digit of that.
func (r *reader) digits(m *bitmap.Map) {
	w, h := m.Size()
	place := 0 // in raster order
pixel:
	r.gap()
	switch r.look() {
	case '0':
		goto white
	case '1':
		goto black
	case end:
		panic(api.ErrPbmEnd)
	}
	panic(api.ErrPbmForm)
black:
	m.Set(place%w, place/w, 1)
white:
	r.at++
	place++
	if place < w*h {
		goto pixel
	}
	r.gap()
	if r.look() != end {
		panic(api.ErrPbmMore)
	}
}

// rows reads the pixels of a file of packed rows; the bits behind a row's end are not asked for.
func (r *reader) rows(m *bitmap.Map) {
	if !isWhite(r.look()) {
		panic(api.ErrPbmForm)
	}
	r.at++
	w, h := m.Size()
	wide := bytesOf(w)
	left := len(r.f) - r.at
	if left < wide*h {
		panic(api.ErrPbmEnd)
	}
	if left > wide*h {
		panic(api.ErrPbmMore)
	}
	for y := range h {
		for x := range w {
			m.Set(x, y, int(r.f[r.at+x/8]>>(7-x%8)&1))
		}
		r.at += wide
	}
}

// look tells the byte that comes next.
func (r *reader) look() int {
	if r.at == len(r.f) {
		return end
	}
	return int(r.f[r.at])
}

func isWhite(c int) bool {
	return 9 <= c && c <= 13 || c == ' '
}

func isDigit(c int) bool {
	return '0' <= c && c <= '9'
}
