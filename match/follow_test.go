package match_test

import (
	"slices"
	"sync"
	"testing"

	"burin/api"
	"burin/bitmap"
	"burin/match"
)

// TestEqual: P12.3: with a tolerance of 0, of either sign, bitmaps have one class just if they are equal.
func TestEqual(t *testing.T) {
	d := dice(4)
	for range 300 {
		l := plains(d.pieces(1 + d.below(25)))
		for _, tolerance := range []float64{0, minus} {
			wantTogether(t, l, tolerance, bitmap.Equal)
		}
	}
}

// TestOneSize: P12.3: with +Inf bitmaps have one class just if they have one size; so they have with 1.
func TestOneSize(t *testing.T) {
	d := dice(5)
	for range 300 {
		l := plains(d.pieces(1 + d.below(25)))
		for _, tolerance := range []float64{inf, 1} {
			wantTogether(t, l, tolerance, func(a, b api.Bitmap) bool { return a.W == b.W && a.H == b.H })
		}
	}
}

// wantTogether asks of each two bitmaps whether they have one class.
func wantTogether(t *testing.T, l []api.Bitmap, tolerance float64, areOne func(a, b api.Bitmap) bool) {
	t.Helper()
	m, err := match.Classes(l, tolerance)
	if err != api.OK || len(m.Class) != len(l) {
		t.Fatalf("tolerance %v: %v, error %d", tolerance, m.Class, err)
	}
	for i, a := range l {
		for k, b := range l {
			if (m.Class[i] == m.Class[k]) != areOne(a, b) {
				t.Fatalf("tolerance %v: bitmaps %d and %d: classes %d and %d", tolerance, i, k, m.Class[i], m.Class[k])
			}
		}
	}
}

// TestFirstOfClass: P12.3: a class's bitmap is the first that has it; classes are numbered as they are begun.
func TestFirstOfClass(t *testing.T) {
	d := dice(6)
	for range 500 {
		l, tolerance := plains(d.pieces(1+d.below(40))), d.tolerance()
		m, _ := match.Classes(l, tolerance)
		begun := 0
		for i, class := range m.Class {
			if class > begun {
				t.Fatalf("class %d ahead of class %d", class, begun)
			}
			if class == begun {
				if !bitmap.Equal(m.Reps[class], l[i]) {
					t.Fatalf("class %d has another bitmap", class)
				}
				begun++
			}
		}
		if begun != len(m.Reps) {
			t.Fatalf("%d classes, %d bitmaps of classes", begun, len(m.Reps))
		}
	}
}

// TestAgain: P12.3: the classes' bitmaps, classified again, have as many classes, each one its own.
func TestAgain(t *testing.T) {
	d := dice(7)
	for range 500 {
		l, tolerance := plains(d.pieces(1+d.below(40))), d.tolerance()
		m, _ := match.Classes(l, tolerance)
		own := make([]int, len(m.Reps))
		for i := range own {
			own[i] = i
		}
		wantClasses(t, m.Reps, tolerance, own...)
	}
}

// TestBitmapsStay: P12.4 (R2): bitmaps stay as they are, behind their words and behind the list, too, and nothing is read there.
func TestBitmapsStay(t *testing.T) {
	d := dice(8)
	for range 100 {
		p := d.pieces(1 + d.below(12))
		l := plains(p)
		long := make([]api.Bitmap, 0, len(l)+1)
		var kept [][]uint64
		for _, b := range l {
			words := append(slices.Clone(b.Bits), ^uint64(0), 7)
			kept = append(kept, slices.Clone(words))
			long = append(long, api.Bitmap{W: b.W, H: b.H, Bits: words[:len(b.Bits)]})
		}
		behind := append(long, api.Bitmap{W: -3, H: 5})[len(long):]
		tolerance := d.tolerance()
		wantMatching(t, long, tolerance, classified(p, tolerance))
		wantOrder(t, long, ordered(l)...)
		if behind[0].W != -3 || behind[0].H != 5 || behind[0].Bits != nil {
			t.Fatal("what lies behind the list was changed")
		}
		for i, b := range long {
			if !bitmap.Equal(b, l[i]) || !slices.Equal(b.Bits[:len(b.Bits)+2], kept[i]) {
				t.Fatalf("bitmap %d was changed", i)
			}
		}
	}
}

// TestAnswerStays: P12.4 (R2): what was told stays, whatever becomes of what was handed in; the next answer is new.
func TestAnswerStays(t *testing.T) {
	d := dice(9)
	for range 100 {
		p := d.pieces(1 + d.below(12))
		l, want, order := plains(p), classified(p, 0), ordered(plains(p))
		m, _ := match.Classes(l, 0)
		numbers, _ := match.Order(l)
		handed := cloned(l)
		for _, b := range l {
			flip(b.Bits)
		}
		clear(l)
		if !sameMatching(m, want) || !slices.Equal(numbers, order) {
			t.Fatal("an answer changed with its bitmaps")
		}
		for _, b := range m.Reps {
			flip(b.Bits[:cap(b.Bits)])
		}
		clear(m.Reps[:cap(m.Reps)])
		clear(m.Class[:cap(m.Class)])
		clear(numbers[:cap(numbers)])
		wantMatching(t, handed, 0, want)
		wantOrder(t, handed, order...)
	}
}

// TestOwnMemory: P12.4 (R2): no two lists of an answer share memory, behind their lengths neither, though the bitmaps handed in do.
func TestOwnMemory(t *testing.T) {
	words := make([]uint64, 40)
	var l []api.Bitmap
	for i := range 40 {
		l = append(l, api.Bitmap{W: 1 + i, H: 1, Bits: words[:1]}, api.Bitmap{W: 1, H: 1 + i, Bits: words[:1+i]})
	}
	m, err := match.Classes(l, 0)
	if err != api.OK || len(m.Reps) != 79 {
		t.Fatalf("%d classes, error %d", len(m.Reps), err)
	}
	for i, b := range m.Reps {
		flip(b.Bits[:cap(b.Bits)])
		for k, c := range m.Reps[i+1:] {
			if slices.Max(c.Bits) != 0 {
				t.Fatalf("bitmaps of classes %d and %d share memory", i, i+1+k)
			}
		}
	}
	if slices.Max(words) != 0 {
		t.Error("an answer shares memory with what was handed in")
	}
}

func flip(words []uint64) {
	for i := range words {
		words[i] = ^words[i]
	}
}

// TestShared: P12.4 (R2): what is handed in is only read, by several at the same time, too (go test -race tells).
func TestShared(t *testing.T) {
	l := lines("####", "##", "###.", "##", "#..#", "..")
	var all sync.WaitGroup
	for range 4 {
		all.Go(func() {
			m, _ := match.Classes(l, 0.25)
			numbers, _ := match.Order(l)
			if !slices.Equal(m.Class, []int{0, 1, 0, 1, 2, 3}) || !slices.Equal(numbers, []int{1, 3, 5, 0, 2, 4}) {
				t.Error("other answers")
			}
		})
	}
	all.Wait()
}

// TestNoPanic: P12.4 (R3): calls end, whatever is handed in; beside an error stands nothing.
func TestNoPanic(t *testing.T) {
	d := dice(10)
	for range 5000 {
		l := plains(d.pieces(d.below(4)))
		for range d.below(3) {
			l = append(l, d.wild())
		}
		isForm := !slices.ContainsFunc(l, func(b api.Bitmap) bool { return !bitmap.Check(b) })
		tolerance := d.float()
		switch {
		case !(tolerance >= 0):
			wantNoClasses(t, l, tolerance, api.ErrTolerance)
		case !isForm:
			wantNoClasses(t, l, tolerance, api.ErrMatchForm)
		default:
			if m, err := match.Classes(l, tolerance); err != api.OK || len(m.Class) != len(l) {
				t.Fatalf("Classes(%+v, %v): %v, error %d", l, tolerance, m, err)
			}
		}
		if isForm {
			wantOrder(t, l, ordered(l)...)
		} else {
			wantNoOrder(t, l)
		}
	}
}
