package comps

import (
	"burin/api"
	"burin/runs"
)

// forest holds of each run the number of its parent; a root is its own parent. No parent's number is greater than its child's: the root of a piece is its first run.
type forest []int

// grown puts together the n runs of rows as far as they touch.
func grown(rows [][]api.Run, n int) forest {
	f := make(forest, n)
	for i := range f {
		f[i] = i
	}
	first := 0
	for y := 1; y < len(rows); y++ {
		f.join(rows[y-1], rows[y], first)
		first += len(rows[y-1])
	}
	return f
}

// join goes along two neighbouring rows, the runs of which are numbered on from first, and leaves behind the run that ends sooner: what comes next in the other row lies beyond its reach.
func (f forest) join(above, below []api.Run, first int) {
	i, j := 0, 0
	for i < len(above) && j < len(below) {
		if runs.Touch(above[i], below[j]) {
			f.unite(first+i, first+len(above)+j)
		}
		if above[i].To < below[j].To {
			i++
		} else {
			j++
		}
	}
}

func (f forest) unite(i, j int) {
	i, j = f.root(i), f.root(j)
	f[max(i, j)] = min(i, j)
}

// root walks up. On the way each run that is passed is hung up higher, so that no way stays long.
func (f forest) root(i int) int {
up:
	if f[i] == i {
		return i
	}
	f[i] = f[f[i]]
	i = f[i]
	goto up
}
