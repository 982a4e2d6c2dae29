// Package lattice: which level is above which: see doc/01-lattice.md.
package lattice

import (
	"ravelin/api"
)

// Check: see P1.1.
func Check(l api.Lattice) api.Errno {
	if !square(l.Dom) {
		return api.ErrForm
	}
	if !ordered(l.Dom) {
		return api.ErrLattice
	}
	return api.OK
}

// Levels: see P1.1.
func Levels(l api.Lattice) int {
	if Check(l) != api.OK {
		return 0
	}
	return len(l.Dom)
}

// Dom: see P1.1.
func Dom(l api.Lattice, a, b int) bool {
	return isLevel(l, a) && isLevel(l, b) && l.Dom[a][b]
}

// Above: see P1.1.
func Above(l api.Lattice, a, b int) bool {
	return a != b && Dom(l, a, b)
}

// Below: see P1.1.
func Below(l api.Lattice, a int) []int {
	if !isLevel(l, a) {
		return nil
	}
	var below []int
	for b, lower := range l.Dom[a] {
		if lower && b != a {
			below = append(below, b)
		}
	}
	return below
}

// Covers: see P1.1.
func Covers(l api.Lattice, a int) []int {
	below := Below(l, a)
	var covers []int
rows:
	for _, b := range below {
		for _, between := range below {
			if between != b && l.Dom[between][b] {
				continue rows
			}
		}
		covers = append(covers, b)
	}
	return covers
}

// Order: see P1.2.
func Order(l api.Lattice) []int {
	n := Levels(l)
	order := make([]int, 0, n)
	placed := make([]bool, n)
	for range n {
	rows:
		for a, row := range l.Dom {
			if placed[a] {
				continue
			}
			for b, lower := range row {
				if lower && b != a && !placed[b] {
					continue rows
				}
			}
			// The level just placed may let a lesser one go next, so the rows begin again.
			placed[a] = true
			order = append(order, a)
			break
		}
	}
	return order
}

// Join: see P1.2.
func Join(l api.Lattice, a, b int) (int, bool) {
	if !isLevel(l, a) || !isLevel(l, b) {
		return 0, false
	}
rows:
	for least, row := range l.Dom {
		if !row[a] || !row[b] {
			continue
		}
		for _, other := range l.Dom {
			if other[a] && other[b] && !other[least] {
				continue rows
			}
		}
		return least, true
	}
	return 0, false
}

// Chain: see P1.2.
func Chain(n int) api.Lattice {
	n = min(max(n, 1), api.MaxLevels)
	dom := make([][]bool, n)
	for a := range dom {
		dom[a] = make([]bool, n)
		for b := range a + 1 {
			dom[a][b] = true
		}
	}
	return api.Lattice{Dom: dom}
}

// square tells whether there are as many rows as may be, each as long as there are rows.
func square(dom [][]bool) bool {
	if len(dom) < 1 || len(dom) > api.MaxLevels {
		return false
	}
	for _, row := range dom {
		if len(row) != len(dom) {
			return false
		}
	}
	return true
}

// ordered tells whether the square dom is a partial order.
func ordered(dom [][]bool) bool {
	for a, row := range dom {
		if !row[a] {
			return false
		}
		for b, lower := range row {
			if !lower || b == a {
				continue
			}
			if dom[b][a] || !holds(row, dom[b]) {
				return false
			}
		}
	}
	return true
}

// holds tells whether row has all that part has.
func holds(row, part []bool) bool {
	for c, lower := range part {
		if lower && !row[c] {
			return false
		}
	}
	return true
}

// isLevel tells whether a is a level of a lattice of which Check doesn't err.
func isLevel(l api.Lattice, a int) bool {
	return a >= 0 && a < Levels(l)
}
