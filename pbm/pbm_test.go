package pbm_test

import (
	"bytes"
	"math"
	"strconv"
	"strings"
	"testing"

	"burin/api"
	"burin/pbm"
)

// wantWrite holds what Write tells of a bitmap.
func wantWrite(t *testing.T, b api.Bitmap, kind int, want []byte, wantErr api.Errno) {
	t.Helper()
	if f, err := pbm.Write(b, kind); err != wantErr || !bytes.Equal(f, want) {
		t.Fatalf("Write of %d times %d, kind %d: %.200q, error %d; want %.200q, error %d", b.W, b.H, kind, f, err, want, wantErr)
	}
}

// TestWriteExamples: P3.1: the chapter's first example, the ends of lines and of bytes.
func TestWriteExamples(t *testing.T) {
	for _, c := range []struct {
		text        string
		w           int
		text1, row4 string
	}{
		{"10", 2, "P1\n2 1\n10\n", "P4\n2 1\n\x80"},
		{"1", 1, "P1\n1 1\n1\n", "P4\n1 1\n\x80"},
		{"011001", 2, "P1\n2 3\n01\n10\n01\n", "P4\n2 3\n\x40\x80\x40"},
		{"01011011", 8, "P1\n8 1\n01011011\n", "P4\n8 1\n\x5b"},
		{"000000011000000010", 9, "P1\n9 2\n000000011\n000000010\n", "P4\n9 2\n\x01\x80\x01\x00"},
		{strings.Repeat("1", 63), 63, "P1\n63 1\n" + strings.Repeat("1", 63) + "\n", "P4\n63 1\n" + strings.Repeat("\xff", 7) + "\xfe"},
		{strings.Repeat("1", 128), 64, "P1\n64 2\n" + strings.Repeat(strings.Repeat("1", 64)+"\n", 2), "P4\n64 2\n" + strings.Repeat("\xff", 16)},
		{strings.Repeat("1", 65), 65, "P1\n65 1\n" + strings.Repeat("1", 64) + "\n1\n", "P4\n65 1\n" + strings.Repeat("\xff", 8) + "\x80"},
		{strings.Repeat("0", 128), 128, "P1\n128 1\n" + strings.Repeat(strings.Repeat("0", 64)+"\n", 2), "P4\n128 1\n" + strings.Repeat("\x00", 16)},
	} {
		wantWrite(t, plain(c.text, c.w), api.PbmText, []byte(c.text1), api.OK)
		wantWrite(t, plain(c.text, c.w), api.PbmBytes, []byte(c.row4), api.OK)
	}
}

// TestWrite: P3.1: bitmaps of all widths, held against the model.
func TestWrite(t *testing.T) {
	d := dice(1)
	for range 500 {
		w := d.wide()
		text := d.drawn(w * (1 + d.below(5)))
		for kind := range 2 {
			wantWrite(t, plain(text, w), kind, modelWrite(text, w, kind), api.OK)
		}
	}
}

// TestWriteRefuses: P3.1: kinds and bitmaps that may not be; of two errors that of the kind is told.
func TestWriteRefuses(t *testing.T) {
	bad := []api.Bitmap{
		{},
		{W: 1, H: 0},
		{W: 0, H: 1},
		{W: 1, H: 1},
		{W: -64, H: -1, Bits: []uint64{0}},
		{W: 1, H: 1, Bits: []uint64{0, 0}},
		{W: 2, H: 1, Bits: []uint64{1 << 61}},
		{W: 63, H: 2, Bits: []uint64{1, 0}},
		{W: 65, H: 1, Bits: []uint64{0}},
		{W: 65, H: 1, Bits: []uint64{0, 1}},
		{W: 1 << 32, H: 1 << 32},
		{W: math.MaxInt, H: math.MaxInt},
		{W: math.MinInt, H: math.MinInt},
		{W: 64, H: 1<<14 + 1, Bits: make([]uint64, 1<<14+1)},
	}
	good := plain("10", 2)
	for _, kind := range []int{math.MinInt, -1, 2, 3, 1 << 32, 1<<32 + 1, math.MaxInt} {
		wantWrite(t, good, kind, nil, api.ErrPbmKind)
		for _, b := range bad {
			wantWrite(t, b, kind, nil, api.ErrPbmKind)
		}
	}
	for _, b := range bad {
		wantWrite(t, b, api.PbmText, nil, api.ErrPbmForm)
		wantWrite(t, b, api.PbmBytes, nil, api.ErrPbmForm)
	}
}

// TestReadExamples: P3.2: the chapter's examples, and what stands where in a file.
func TestReadExamples(t *testing.T) {
	for _, f := range []string{
		"P1\n2 1\n10\n", "P4\n2 1\n\x80", "P1 2#x\n1 1 0 # end",
		"P1#\n2#\n1#\n10", "P1 2 1 10", "P1 2 1#10\n10", "P1\t\n\v\f\r 2\t\n\v\f\r 1\t\n\v\f\r 1\t\n\v\f\r 0\t\n\v\f\r ",
		"P1 2 1 1#\n#0\n0#", "P1 2 1 10#\n", "P1 2 1 1#0 1\n0", "P1 02 0001 10", "P1 00000000000000000000000000002 1 10",
		"P1 2 1 10#\x00\xff", "P1 ## #\n2 1 10", "P1#1\r2\n2 1 10",
		"P4#\n2#\n1 \x80", "P4 2 1\t\xbf", "P4 2 1\n\x80", "P4 2 1\v\xa5", "P4 2 1\f\x80", "P4 2 1\r\x80", "P4#x\n 002 \n01 \x80",
	} {
		wantRead(t, f, plain("10", 2), api.OK)
	}
	wantRead(t, "P4 1 1 #", plain("0", 1), api.OK)
	wantRead(t, "P4 1 2 \n\x80", plain("01", 1), api.OK)
	wantRead(t, "P4 3 2 \x5f\xbf", plain("010101", 3), api.OK)
	wantRead(t, "P1 3 2 01 010\n1", plain("010101", 3), api.OK)
	wantRead(t, "P1 1 1 0\n", plain("0", 1), api.OK)
}

// TestReadFaults: P3.2: the chapter's examples; of several faults the first one, from left to right.
func TestReadFaults(t *testing.T) {
	faults := map[api.Errno][]string{
		api.ErrPbmForm: {
			"", "P", "P1", "P4", "p1 1 1 0", "P2 1 1 0", "P3 1 1 0", "P5 1 1 0", "Q1 1 1 0", " P1 1 1 0", "#\nP1 1 1 0", "P 1 1 1 0", "1P 1 1 0",
			"P1 x", "P1 ", "P1 #", "P1#1 1 1\n", "P1x 1 1 0", "P11 1 0", "P11 1 1", "P41 1 1 \x00", "P1 -1 1 0", "P1 +1 1 0", "P1\x00 1 1 0", "P1\x0e1 1 0", "P1\x081 1 0", "P1\x1f1 1 0", "P1!1 1 0", "P1\xa01 1 0", "P1\xc2\x851 1 0",
			"P1 1", "P1 1 ", "P1 1#", "P1 1x1 0", "P1 1,1 0", "P1 1 x", "P1 1 -1 0", "P1 0", "P1 0 ", "P1 0 x", "P4 99999999999 ", "P1 1.5 1 0", "P1 1\x001 0",
			"P1 1 1 2", "P1 1 1x", "P1 1 1x0", "P1 1 1\x000", "P1 1 1,0", "P1 2 1 12", "P1 2 1 0x", "P1 2 1 x", "P1 2 1 #\n/", "P1 2 1 1 - 0", "P1 2 1 1,0", "P1 2 1 1\xa00", "P1 2 1 1\x000", "P1 2 1 1\x000 ", "P1 3 1 01210",
			"P4 1 1", "P4 1 1#", "P4 1 1#\n\x00", "P4 1 1x", "P4 1 1x\x00", "P4 1 1\x00", "P4 1 1\x00\x00", "P4 1 1\x0e\x00", "P4 1 1\x08\x00", "P4 1 1\xff\x00",
		},
		api.ErrPbmArea: {
			"P1 0 1 ", "P1 0 1", "P4 0 1", "P4 1 0", "P1 0 0 x", "P1 0 1x", "P4 0 1#", "P1 1 00 0", "P1 1048577 1", "P1 1 1048577", "P1 1025 1024 0", "P4 1024 1025 ",
			"P1 99999999999 1 0", "P1 1 99999999999 0", "P1 2147483648 1 0", "P1 2147483648 2147483648", "P4 4294967296 4294967297 ", "P4 4294967297 1 \x00", "P4 1 4294967297 \x00", "P1 18446744073709551617 1 0", "P1 1 18446744073709551617 0", "P4 18446744073709551616 1", "P1 0 18446744073709551617",
			"P1 1" + strings.Repeat("0", 1000) + "1 1 0", "P1 1 9" + strings.Repeat("9", 1000) + " 0",
		},
		api.ErrPbmEnd: {
			"P1 2 110", "P1 2 1 1", "P1 2 1 1 #", "P1 2 1 1#0", "P1 1 1", "P1 1 1 ", "P1 1 1#0", "P1 1 1 #\n", "P1 2 2 0 1 0", "P1 1048576 1", "P1 1 1048576 " + strings.Repeat("1", 1<<20-1),
			"P4 1 1 ", "P4 9 2 \x00\x00\x00", "P4 9 1 \x00", "P4 8 2\n\x00", "P4 1048576 1 ", "P4 1 1048576 " + strings.Repeat("1", 1<<20-1),
		},
		api.ErrPbmMore: {
			"P1 1 1 0 1", "P1 1 1 01", "P1 1 1 00", "P1 1 1 0x", "P1 1 1 0 2", "P1 1 1 0#\n1", "P1 1 1 0 \x00", "P1 2 1 1 0 \n \xff", "P1 2 1 102", "P1 1 1 0P1 1 1 0", "P1 1 1 0 #\n#\n#\n/",
			"P4 1 1 \x00\n", "P4 1 1 \x00\x00", "P4 1 1  \x00", "P4 8 2 \x00\x00\x00", "P4 1 1 \x00#", "P4 1 1\r\n\x80", "P4 9 1 \x00\x00 ",
		},
	}
	for want, files := range faults {
		for _, f := range files {
			wantRead(t, f, api.Bitmap{}, want)
			wantModel(t, f)
		}
	}
}

// TestReadBytes: P3.2: each byte at each place of a file.
func TestReadBytes(t *testing.T) {
	for _, f := range []string{"P1 2#x\n1 1 0 # end", "P1\n12 2\n101100111000\n000111001101\n", "P4 9 2 \x00\x80\xff\x00", "P4#\n3\n1\n\x40"} {
		for i := range len(f) + 1 {
			for v := range 256 {
				c := string([]byte{byte(v)})
				wantModel(t, f[:i]+c+f[i:])
				if i < len(f) {
					wantModel(t, f[:i]+c+f[i+1:])
				}
			}
			wantModel(t, f[:i])
			wantModel(t, f[i:])
		}
	}
}

// TestReadShort: P3.2: all short files of some bytes.
func TestReadShort(t *testing.T) {
	const letters = "01 #\nx"
	for _, mark := range []string{"P1", "P4", "P1 1 1", "P4 1 1", "P1 2 1 ", "P4 12 1 "} {
		files := []string{mark}
		for range 5 {
			longer := files[:0:0]
			for _, f := range files {
				wantModel(t, f)
				for i := range letters {
					longer = append(longer, f+letters[i:i+1])
				}
			}
			files = longer
		}
	}
}

// TestReadAnyForm: P3.2: files with gaps of all kinds, and with bytes changed.
func TestReadAnyForm(t *testing.T) {
	d := dice(2)
	for range 4000 {
		w, h := 1+d.below(12), 1+d.below(4)
		text := d.drawn(w * h)
		f := modelWrite(text, w, api.PbmBytes)
		body := string(f[len(f)-(w+7)/8*h:])
		size := d.gap() + strings.Repeat("0", d.below(3)) + strconv.Itoa(w) + d.gap() + strings.Repeat("0", d.below(3)) + strconv.Itoa(h)
		files := []string{"P4" + size + " " + body, "P1" + size + d.gap() + d.scattered(text)}
		for _, f := range files {
			wantRead(t, f, plain(text, w), api.OK)
			changed := []byte(f)
			for range 1 + d.below(3) {
				changed[d.below(len(changed))] = "0129 \n#P4\x00\x0e\xff"[d.below(12)]
			}
			wantModel(t, string(changed))
		}
	}
}

// TestReadNumbers: P3.2: sizes about the caps, those among them whose product would wrap.
func TestReadNumbers(t *testing.T) {
	sizes := []string{"0", "1", "2", "3", "1023", "1024", "1025", "1048575", "1048576", "1048577", "2147483647", "2147483648", "2147483649", "4294967295", "4294967296", "4294967297", "9223372036854775807", "9223372036854775808", "18446744073709551615", "18446744073709551616", "18446744073709551617", "36893488147419103233"}
	for _, w := range sizes {
		for _, h := range sizes {
			for _, mark := range []string{"P1 ", "P4 "} {
				wantModel(t, mark+w+" "+h)
				wantModel(t, mark+w+" "+h+" 0")
			}
		}
	}
}
