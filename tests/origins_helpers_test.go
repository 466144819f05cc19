package tests

import (
	"math/rand"
	"slices"
	"testing"

	"loop.example/g01300/impl"
)

// odds are the parts of a path, and the path.
type odds struct {
	parts int64
	path  []int64
}

// cellsOf returns the numbers of all cells of a sea.
func cellsOf(s impl.Sea) []int64 {
	var list []int64
	for _, cell := range numbersOfCells(int(s.Wide), int(s.High)) {
		list = append(list, int64(cell))
	}
	return list
}

// partsByHand returns by how many parts a bottle goes from a cell to another
// one in an hour of a tide, by the document.
func partsByHand(s impl.Sea, cell, to, tide int64) int64 {
	if s.Land&bits(int(cell)) != 0 {
		if to == cell {
			return 12
		}
		return 0
	}
	for way, parts := range s.Tides[tide][cell] {
		if int64(stepByHand(s, int(cell), way)) == to {
			return int64(parts)
		}
	}
	return 0
}

// alongByHand returns the parts of a path, by the document.
func alongByHand(s impl.Sea, path []int64, begin int64) int64 {
	parts := int64(1)
	for hour := 1; hour < len(path); hour++ {
		parts *= partsByHand(s, path[hour-1], path[hour], (begin+int64(hour-1))%2)
	}
	return parts
}

// allPaths returns all paths from a cell that can be, in their order as lists.
func allPaths(s impl.Sea, cell, begin int64, hours int) []odds {
	list := []odds{{1, []int64{cell}}}
	for hour := range hours {
		var longer []odds
		for _, one := range list {
			from := one.path[hour]
			for _, to := range cellsOf(s) {
				if parts := partsByHand(s, from, to, (begin+int64(hour))%2); parts > 0 {
					longer = append(longer, odds{one.parts * parts, append(slices.Clone(one.path), to)})
				}
			}
		}
		list = longer
	}
	return list
}

// likeliestByHand returns, for the cells to which there is one, the likeliest
// path from a cell, going forward: the best path to a cell is a best path to
// the cell before it, and a step.
func likeliestByHand(s impl.Sea, cell, begin int64, hours int) map[int64]odds {
	best := map[int64]odds{cell: {1, []int64{cell}}}
	for hour := range hours {
		next := map[int64]odds{}
		for from, one := range best {
			for _, to := range cellsOf(s) {
				parts := one.parts * partsByHand(s, from, to, (begin+int64(hour))%2)
				path := append(slices.Clone(one.path), to)
				known := next[to]
				if parts > known.parts || parts > 0 && parts == known.parts && slices.Compare(path, known.path) < 0 {
					next[to] = odds{parts, path}
				}
			}
		}
		best = next
	}
	return best
}

// countByHand returns how many paths from a cell there are to each one, going
// forward.
func countByHand(s impl.Sea, cell, begin int64, hours int) map[int64]int64 {
	counts := map[int64]int64{cell: 1}
	for hour := range hours {
		next := map[int64]int64{}
		for from, many := range counts {
			for _, to := range cellsOf(s) {
				if partsByHand(s, from, to, (begin+int64(hour))%2) > 0 {
					next[to] += many
				}
			}
		}
		counts = next
	}
	return counts
}

// weightsByHand returns the weights of finds, by the document.
func weightsByHand(s impl.Sea, list []impl.Find, begin int64) [36]int64 {
	var weights [36]int64
	water, _ := waterAndLand(s)
	for _, cell := range water {
		weights[cell] = 1
		for _, f := range list {
			weights[cell] *= strandsByHand(s, cell, begin, int(f.Hour))[f.Beach]
		}
	}
	return weights
}

// sumByHand returns the sum of all weights.
func sumByHand(weights [36]int64) int64 {
	var sum int64
	for _, weight := range weights {
		sum += weight
	}
	return sum
}

// youngFinds returns lists of valid finds, for a sea with land, of which the
// hours sum to 16 at most, the same ones each time. Some of them are those of
// bottles that one cell has released.
func youngFinds(s impl.Sea) [][]impl.Find {
	r := rand.New(rand.NewSource(16))
	water, land := waterAndLand(s)
	list := [][]impl.Find{nil}
	for many := 1; many <= 16; many += 1 + many/4 {
		var finds []impl.Find
		left := 16
		for i := range many {
			hour := 1 + r.Intn(min(14, left-(many-1-i)))
			left -= hour
			finds = append(finds, impl.Find{Beach: int8(land[r.Intn(len(land))]), Hour: int8(hour)})
		}
		list = append(list, finds)
		if len(water) > 0 {
			list = append(list, findsFrom(r, s, water[r.Intn(len(water))], many))
		}
	}
	return list
}

// findsFrom returns finds that can be of bottles of a cell, if there are any.
func findsFrom(r *rand.Rand, s impl.Sea, cell int64, many int) []impl.Find {
	var finds []impl.Find
	left := 16
	begin := int64(r.Intn(2))
	for range 4 * many {
		hour := 1 + r.Intn(4)
		if len(finds) == many || hour > left {
			break
		}
		for beach, parts := range strandsByHand(s, cell, begin, hour) {
			if parts > 0 && r.Intn(2) == 0 {
				finds = append(finds, impl.Find{Beach: int8(beach), Hour: int8(hour)})
				left -= hour
				break
			}
		}
	}
	return finds
}

// withIsland returns the sea of the examples with a row more, and an island in
// it, the cell 12, which nothing reaches.
func withIsland(t *testing.T) impl.Sea {
	t.Helper()
	s := still(t, 3, 3, bits(2, 12))
	s, code := impl.WithCurrent(s, impl.WyEast, 5)
	if code != impl.OK {
		t.Fatalf("WithCurrent: code %d", code)
	}
	return s
}

// evenly returns a sea of water alone in which all ways are equal, but for
// those that stay.
func evenly(t *testing.T, wide, high int64) impl.Sea {
	t.Helper()
	s := still(t, wide, high, 0)
	for _, cell := range cellsOf(s) {
		s.Tides[0][cell] = impl.Chances{4, 2, 2, 2, 2}
		s.Tides[1][cell] = impl.Chances{0, 3, 3, 3, 3}
	}
	return s
}

// boundsBy returns the least bounds, which have to be there.
func boundsBy(t *testing.T, s impl.Sea, to, begin, hours int64) impl.Bounds {
	t.Helper()
	b, code := impl.BoundsFor(s, to, begin, hours)
	if code != impl.OK {
		t.Fatalf("BoundsFor %d, %d, %d: code %d", to, begin, hours, code)
	}
	return b
}

// badBounds returns bounds that are no proof for the path to the cell 2 of the
// sea of the examples, in 3 hours from flood on, each for one reason, by its
// name.
func badBounds(t *testing.T) map[string]impl.Bounds {
	t.Helper()
	list := map[string]impl.Bounds{"nil": nil, "empty": {}}
	add := func(name string, change func(b impl.Bounds)) {
		b := boundsBy(t, eastward(t), 2, impl.TdFlood, 3)
		change(b)
		list[name] = b
	}
	add("nothing for the cell to", func(b impl.Bounds) { b[0][2] = 0 })
	add("negative", func(b impl.Bounds) { b[0][8] = -1 })
	add("negative above", func(b impl.Bounds) { b[3][8] = -1 })
	add("the least number", func(b impl.Bounds) { b[0][0] = -1 << 63 })
	add("too great", func(b impl.Bounds) { b[3][0] = power(14) + 1 })
	add("too great below, and so above", func(b impl.Bounds) { b[2][8] = 1<<63 - 1; b[3][7] = power(14); b[3][8] = power(14) })
	add("products that wrap around", func(b impl.Bounds) { b[2][8] = 1 << 62; b[3][7] = power(14); b[3][8] = power(14) })
	add("beside the grid", func(b impl.Bounds) { b[0][3] = 1 })
	add("below the grid", func(b impl.Bounds) { b[1][12] = 1 })
	add("the last number", func(b impl.Bounds) { b[3][35] = 1 })
	add("negative beside the grid", func(b impl.Bounds) { b[2][3] = -1 })
	add("one less on land", func(b impl.Bounds) { b[1][2]-- })
	add("one less on land in the end", func(b impl.Bounds) { b[3][2]-- })
	add("one less for a way", func(b impl.Bounds) { b[1][1]-- })
	add("one less in the end", func(b impl.Bounds) { b[3][0]-- })
	add("one more below", func(b impl.Bounds) { b[2][1]++ })
	add("one more for what stays", func(b impl.Bounds) { b[0][7] = 1 })
	add("one more on land below", func(b impl.Bounds) { b[2][2]++ })
	long := make(impl.Bounds, 16)
	for left := range long {
		for _, cell := range cellsOf(eastward(t)) {
			long[left][cell] = power(min(left, 14))
		}
	}
	list["15 hours"] = long
	list["very many rows"] = make(impl.Bounds, 27000)
	list["very many rows"][0][2] = 1
	return list
}
