package tests

import (
	"math/big"
	"math/rand"
	"slices"
	"sync"
	"testing"

	"loop.example/g01300/impl"
)

// lonely returns the sea of the document's example: a cell of water, with the
// same chances in both tides, beside one of land.
func lonely(t *testing.T, c impl.Chances) impl.Sea {
	t.Helper()
	return rowOf(t, bits(1), [2]impl.Chances{c, c}, [2]impl.Chances{})
}

// rowOf returns a sea that is one row of cells, with the chances of each cell
// by flood and by ebb; those of land are not looked at.
func rowOf(t *testing.T, land uint64, list ...[2]impl.Chances) impl.Sea {
	t.Helper()
	s := still(t, int64(len(list)), 1, land)
	for cell, c := range list {
		if land&bits(cell) == 0 {
			s.Tides[0][cell], s.Tides[1][cell] = c[0], c[1]
		}
	}
	return s
}

// westEast returns chances to the west and to the east in both tides; the rest
// stays.
func westEast(west, east uint8) [2]impl.Chances {
	c := impl.Chances{impl.WyStay: 12 - west - east, impl.WyEast: east, impl.WyWest: west}
	return [2]impl.Chances{c, c}
}

// numberOf returns the number of a fate, by the document.
func numberOf(cell, tide int64) int { return int(2*cell + tide) }

// fates are what is known of all fates of a sea, by their numbers.
type fates struct {
	s impl.Sea
	// after tells behind how many hours, at least 1, one fate comes from
	// another one at first; 0 stands for never.
	after [72][72]int
}

// fatesByHand follows hours one by one from each fate.
func fatesByHand(s impl.Sea) *fates {
	known := &fates{s: s}
	for from := range 72 {
		now := map[int]bool{from: true}
		for hour := 1; hour <= 72; hour++ {
			next := map[int]bool{}
			for f := range now {
				for _, to := range nextByHand(s, f) {
					if known.after[from][to] == 0 {
						known.after[from][to] = hour
						next[to] = true
					}
				}
			}
			now = next
		}
	}
	return known
}

// nextByHand returns the fates that follow one, none if it is no fate.
func nextByHand(s impl.Sea, f int) []int {
	var list []int
	cell, tide := f/2, f%2
	if s.Land&bits(cell) != 0 {
		return []int{2*cell + 1 - tide}
	}
	for way, parts := range s.Tides[tide][cell] {
		if to := stepByHand(s, cell, way); parts > 0 && to >= 0 {
			list = append(list, 2*to+1-tide)
		}
	}
	return list
}

// comes reports whether a fate comes from another one, behind 0 hours or more.
func (known *fates) comes(from, to int) bool { return from == to || known.after[from][to] > 0 }

// partsLost returns how many parts of a fate are lost in its hour.
func partsLost(s impl.Sea, f int) int64 {
	var lost int64
	for way, parts := range s.Tides[f%2][f/2] {
		if stepByHand(s, f/2, way) < 0 {
			lost += int64(parts)
		}
	}
	return lost
}

// mayStrand and mayBeLost tell what may come behind a fate.
func (known *fates) mayStrand(f int) bool {
	for to := range 72 {
		if known.s.Land&bits(to/2) != 0 && known.comes(f, to) {
			return true
		}
	}
	return false
}

func (known *fates) mayBeLost(f int) bool {
	for to := range 72 {
		if known.comes(f, to) && partsLost(known.s, to) > 0 {
			return true
		}
	}
	return false
}

// open returns the numbers of all open fates.
func (known *fates) open() []int {
	var list []int
	water, _ := waterAndLand(known.s)
	for _, cell := range water {
		for tide := range int64(2) {
			if f := numberOf(cell, tide); known.mayStrand(f) || known.mayBeLost(f) {
				list = append(list, f)
			}
		}
	}
	return list
}

// worthOf tells what a fate is worth that is not open, and what is added to an
// open one for each part that is lost, and for each hour.
type worthOf struct {
	land func(cell int) int64
	lost int64
	hour int64
}

// onBeaches, beingLost and hoursLeft are what the functions of chances ask for.
func onBeaches(cells uint64) worthOf {
	return worthOf{land: func(cell int) int64 { return int64(cells >> cell & 1) }}
}

func beingLost() worthOf { return worthOf{land: func(int) int64 { return 0 }, lost: 1} }

func hoursLeft() worthOf { return worthOf{land: func(int) int64 { return 0 }, hour: 1} }

// solvedByHand returns what all fates are worth, by their numbers, with
// fractions of any size: each unknown number is taken from an equation that has
// it, and put into the others.
func (known *fates) solvedByHand(w worthOf) [72]*big.Rat {
	var worth [72]*big.Rat
	for f := range worth {
		worth[f] = new(big.Rat)
		if known.s.Land&bits(f/2) != 0 {
			worth[f].SetInt64(w.land(f / 2))
		}
	}
	open := known.open()
	column := map[int]int{}
	for i, f := range open {
		column[f] = i
	}
	var rows [][]*big.Rat
	for _, f := range open {
		rows = append(rows, known.equationByHand(f, w, column, worth))
	}
	for i := range open {
		for j := i; j < len(rows); j++ {
			if rows[j][i].Sign() != 0 {
				rows[i], rows[j] = rows[j], rows[i]
				break
			}
		}
		for j, row := range rows {
			if j == i {
				continue
			}
			times := new(big.Rat).Quo(row[i], rows[i][i])
			for k := range row {
				row[k] = new(big.Rat).Sub(row[k], new(big.Rat).Mul(times, rows[i][k]))
			}
		}
	}
	for i, f := range open {
		worth[f].Quo(rows[i][len(open)], rows[i][i])
	}
	return worth
}

// equationByHand returns the equation of an open fate: what stands before each
// unknown number, and what all sum to.
func (known *fates) equationByHand(f int, w worthOf, column map[int]int, worth [72]*big.Rat) []*big.Rat {
	row := make([]*big.Rat, len(column)+1)
	for i := range row {
		row[i] = new(big.Rat)
	}
	sum := row[len(column)]
	row[column[f]].SetInt64(1)
	sum.SetInt64(w.hour)
	for way, parts := range known.s.Tides[f%2][f/2] {
		part := big.NewRat(int64(parts), 12)
		to := stepByHand(known.s, f/2, way)
		if to < 0 {
			sum.Add(sum, part.Mul(part, big.NewRat(w.lost, 1)))
			continue
		}
		next := 2*to + 1 - f%2
		if i, open := column[next]; open {
			row[i].Sub(row[i], part)
		} else {
			sum.Add(sum, part.Mul(part, worth[next]))
		}
	}
	return row
}

// swayingChances are, now and then, those that go one way alone, so that the
// fates of a cell differ.
func swayingChances(r *rand.Rand) impl.Chances {
	if r.Intn(3) > 0 {
		return randomChances(r)
	}
	var c impl.Chances
	c[r.Intn(5)] = 12
	return c
}

// calmSea makes a valid sea in which most bottles stay for ever: only a few
// cells have any other chances.
func calmSea(r *rand.Rand) impl.Sea {
	s := randomSea(r)
	water, _ := waterAndLand(s)
	for _, cell := range water {
		s.Tides[0][cell], s.Tides[1][cell] = impl.Chances{12}, impl.Chances{12}
	}
	for range min(len(water), 1+r.Intn(4)) {
		cell := water[r.Intn(len(water))]
		s.Tides[0][cell], s.Tides[1][cell] = swayingChances(r), swayingChances(r)
	}
	return s
}

// smallSea makes a valid sea of a few cells.
func smallSea(r *rand.Rand) impl.Sea {
	s := impl.Sea{Wide: int8(1 + r.Intn(3)), High: int8(1 + r.Intn(3))}
	for _, cell := range numbersOfCells(int(s.Wide), int(s.High)) {
		if r.Intn(5) < 2 {
			s.Land |= 1 << cell
			continue
		}
		s.Tides[0][cell], s.Tides[1][cell] = swayingChances(r), swayingChances(r)
	}
	return s
}

// boundedSeas returns seas with 0 to 7 open fates, many for each number and
// the same ones each time, and some with more. It takes a while to find them,
// so this is done once; no test changes them.
var boundedSeas = sync.OnceValues(findBounded)

func findBounded() (few, many []*fates) {
	r := rand.New(rand.NewSource(7))
	var counts [8]int
	for range 2500 {
		s := calmSea(r)
		if r.Intn(2) == 0 {
			s = smallSea(r)
		}
		known := fatesByHand(s)
		open := len(known.open())
		if open > impl.MaxOpen {
			if len(many) < 60 {
				many = append(many, known)
			}
			continue
		}
		if counts[open]++; counts[open] <= 40 {
			few = append(few, known)
		}
	}
	return few, many
}

// everSeas returns seas of all kinds, with many open fates and with few.
var everSeas = sync.OnceValue(func() []*fates {
	few, many := boundedSeas()
	list := slices.Concat(few, many)
	for _, s := range manySeas()[:60] {
		list = append(list, fatesByHand(s))
	}
	return list
})

// someCells returns bits of cells of a sea: none, one, a few, or all.
func someCells(r *rand.Rand, s impl.Sea) uint64 {
	var some uint64
	cells := cellsOf(s)
	for range r.Intn(4) {
		some |= bits(int(cells[r.Intn(len(cells))]))
	}
	if r.Intn(6) == 0 {
		some = allBits(s)
	}
	return some
}

// allBits returns the bits of all cells.
func allBits(s impl.Sea) uint64 { return bits(numbersOfCells(int(s.Wide), int(s.High))...) }
