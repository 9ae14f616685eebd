package pbm_test

import (
	"fmt"
	"math/big"
	"regexp"
	"strings"
	"testing"

	"burin/api"
	"burin/bitmap"
	"burin/pbm"
)

const gapForm = `(?:[\t-\r ]|#[^\n]*(?:\n|\z))`

var (
	headForm = regexp.MustCompile(`\AP([14])` + gapForm + `+([0-9]+)` + gapForm + `+([0-9]+)`)
	gaps     = regexp.MustCompile(gapForm)
)

// modelRead reads a file by whole forms, not byte by byte.
func modelRead(f []byte) (api.Bitmap, api.Errno) {
	found := headForm.FindSubmatch(f)
	if found == nil {
		return api.Bitmap{}, api.ErrPbmForm
	}
	w, _ := new(big.Int).SetString(string(found[2]), 10)
	h, _ := new(big.Int).SetString(string(found[3]), 10)
	area := new(big.Int).Mul(w, h)
	if area.Sign() == 0 || area.Cmp(big.NewInt(api.MaxArea)) > 0 {
		return api.Bitmap{}, api.ErrPbmArea
	}
	text, err := modelDigits(f[len(found[0]):], int(area.Int64()))
	if string(found[1]) == "4" {
		text, err = modelRows(f[len(found[0]):], int(w.Int64()), int(h.Int64()))
	}
	if err != api.OK {
		return api.Bitmap{}, err
	}
	return plain(text, int(w.Int64())), api.OK
}

// modelDigits tells the pixels behind a head of P1, as a text of noughts and ones.
func modelDigits(rest []byte, area int) (string, api.Errno) {
	kept := gaps.ReplaceAll(rest, nil)
	for i := range area {
		if i == len(kept) {
			return "", api.ErrPbmEnd
		}
		if kept[i] != '0' && kept[i] != '1' {
			return "", api.ErrPbmForm
		}
	}
	if len(kept) > area {
		return "", api.ErrPbmMore
	}
	return string(kept), api.OK
}

// modelRows tells the pixels behind a head of P4.
func modelRows(rest []byte, w, h int) (string, api.Errno) {
	if len(rest) == 0 || !strings.Contains("\t\n\v\f\r ", string(rune(rest[0]))) {
		return "", api.ErrPbmForm
	}
	rest = rest[1:]
	wide := (w + 7) / 8
	if len(rest) < wide*h {
		return "", api.ErrPbmEnd
	}
	if len(rest) > wide*h {
		return "", api.ErrPbmMore
	}
	text := ""
	for y := range h {
		row := ""
		for _, v := range rest[y*wide : (y+1)*wide] {
			row += fmt.Sprintf("%08b", v)
		}
		text += row[:w]
	}
	return text, api.OK
}

// modelWrite writes a file out of a text of noughts and ones, row by row.
func modelWrite(text string, w, kind int) []byte {
	f := []byte(fmt.Sprintf("P%d\n%d %d\n", 1+3*kind, w, len(text)/w))
	for ; text != ""; text = text[w:] {
		row, piece := text[:w], 64
		if kind == api.PbmBytes {
			row, piece = row+strings.Repeat("0", (8-w%8)%8), 8
		}
		for row != "" {
			n := min(piece, len(row))
			if kind == api.PbmText {
				f = append(f, row[:n]+"\n"...)
			} else {
				var v byte
				fmt.Sscanf(row[:n], "%b", &v)
				f = append(f, v)
			}
			row = row[n:]
		}
	}
	return f
}

// plain packs a text of noughts and ones, pixel by pixel.
func plain(text string, w int) api.Bitmap {
	h, stride := len(text)/w, (w+63)/64
	b := api.Bitmap{W: w, H: h, Bits: make([]uint64, h*stride)}
	for i := range text {
		b.Bits[i/w*stride+i%w/64] |= uint64(text[i]-'0') << (63 - i%w%64)
	}
	return b
}

// dice is a row of numbers that is the same in each run.
type dice uint64

func (d *dice) below(n int) int {
	*d += 0x9e3779b97f4a7c15
	z := uint64(*d)
	z = (z ^ z>>30) * 0xbf58476d1ce4e5b9
	z = (z ^ z>>27) * 0x94d049bb133111eb
	return int((z ^ z>>31) % uint64(n))
}

// wide tells widths, those about whole bytes and words more often.
func (d *dice) wide() int {
	if d.below(2) == 0 {
		return []int{1, 2, 7, 8, 9, 16, 63, 64, 65, 127, 128, 129}[d.below(12)]
	}
	return 1 + d.below(200)
}

// drawn is pixels by chance, as a text of noughts and ones.
func (d *dice) drawn(area int) string {
	text := make([]byte, area)
	for i := range text {
		text[i] = '0' + byte(d.below(2))
	}
	return string(text)
}

// gap is white bytes and remarks by chance, at least one of them.
func (d *dice) gap() string {
	text := ""
	for ok := true; ok; ok = d.below(3) == 0 {
		text += []string{"\t", "\n", "\v", "\f", "\r", " ", "#\n", "# 1 0\n", "##\r#\n", "#\xff\x00é\n"}[d.below(10)]
	}
	return text
}

// scattered is digits with gaps between some of them and behind.
func (d *dice) scattered(text string) string {
	f := ""
	for i := range text {
		f += text[i : i+1]
		if d.below(3) == 0 {
			f += d.gap()
		}
	}
	return f + []string{"", " ", "\n", "#", "# 0 1"}[d.below(5)]
}

// wantRead holds what Read tells of a file.
func wantRead(t *testing.T, f string, want api.Bitmap, wantErr api.Errno) {
	t.Helper()
	b, err := pbm.Read([]byte(f))
	if err != wantErr {
		t.Fatalf("Read of %.200q: error %d, want %d", f, err, wantErr)
	}
	if err != api.OK && (b.W != 0 || b.H != 0 || len(b.Bits) != 0) {
		t.Fatalf("Read of %.200q: %v beside error %d", f, b, err)
	}
	if err == api.OK && !bitmap.Equal(b, want) {
		t.Fatalf("Read of %.200q: %v, want %v", f, b, want)
	}
}

// wantModel holds what Read tells of a file against the model.
func wantModel(t *testing.T, f string) {
	t.Helper()
	want, err := modelRead([]byte(f))
	wantRead(t, f, want, err)
}
