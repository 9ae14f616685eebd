package plan

import (
	"slices"

	"burin/api"
	"burin/dict"
	"burin/match"
)

// Who has a class, where no page has it alone.
const (
	shared  = 0 // what dictionaries of no page say as their page's number
	nowhere = -1
)

// home is where a class's symbol stands: the dictionary, and the place among those that it exports.
type home struct {
	dict, place int
}

// library is the dictionaries of a document, as they are added.
type library struct {
	add     adder
	o       api.Options
	reps    []api.Bitmap
	homes   []home        // by the class's number
	shelves map[int][]int // the classes of each dictionary, by its number
}

// addSymbols adds the segments of a document in a symbol mode.
func addSymbols(add adder, pages []api.Bitmap, m api.Matching, pieces [][]api.Piece, o api.Options) {
	l := library{add: add, o: o, reps: m.Reps, homes: make([]home, len(m.Reps)), shelves: map[int][]int{}}
	classes := classesByPage(m.Class, pieces)
	owners := ownersOf(classes, len(m.Reps))
	l.addDicts(shared, ownedBy(shared, owners))
	for i, b := range pages {
		number := i + 1
		add(beginPage(number, b, 0))
		l.addDicts(number, ownedBy(number, owners))
		l.addRegions(number, b, l.usesOf(pieces[i], classes[i]))
		add(endPage(number))
	}
}

// classesByPage tells the class of each piece of each page.
func classesByPage(all []int, pieces [][]api.Piece) [][]int {
	var classes [][]int
	for _, l := range pieces {
		classes = append(classes, all[:len(l)])
		all = all[len(l):]
	}
	return classes
}

// ownersOf tells of each class the page that alone has pieces of it, or that it is shared.
func ownersOf(classes [][]int, count int) []int {
	owners := slices.Repeat([]int{nowhere}, count)
	for i, l := range classes {
		number := i + 1
		for _, class := range l {
			switch owners[class] {
			case nowhere:
				owners[class] = number
			case number:
			default:
				owners[class] = shared
			}
		}
	}
	return owners
}

func ownedBy(owner int, owners []int) []int {
	var classes []int
	for class, one := range owners {
		if one == owner {
			classes = append(classes, class)
		}
	}
	return classes
}

// addDicts adds the dictionaries of the classes that an owner has.
func (l *library) addDicts(owner int, classes []int) {
	for _, part := range cut(l.sorted(classes), api.MaxSymbols, l.areaOf) {
		l.addDict(owner, part)
	}
}

func (l *library) addDict(owner int, classes []int) {
	d := api.Dict{Template: l.o.Template, New: l.looks(classes), Export: slices.Repeat([]bool{true}, len(classes))}
	data, _ := dict.Encode(d, nil)
	number := l.add(api.Segment{Kind: api.SegDict, Page: owner, Stay: true, Data: data})
	l.shelves[number] = classes
	for place, class := range classes {
		l.homes[class] = home{dict: number, place: place}
	}
}

// sorted tells classes in the order of their bitmaps' sizes. They come in the order of their numbers, which stays among those of one size.
func (l *library) sorted(classes []int) []int {
	order, _ := match.Order(l.looks(classes))
	var inOrder []int
	for _, i := range order {
		inOrder = append(inOrder, classes[i])
	}
	return inOrder
}

func (l *library) looks(classes []int) []api.Bitmap {
	var looks []api.Bitmap
	for _, class := range classes {
		looks = append(looks, l.reps[class])
	}
	return looks
}

func (l *library) areaOf(class int) int {
	return areaOf(l.reps[class])
}

func areaOf(b api.Bitmap) int {
	return b.W * b.H
}
