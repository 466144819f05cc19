package tests

import (
	"math"
	"testing"

	"loop.example/g01300/impl"
)

// badCellBits have a bit that is no cell of the example.
var badCellBits = []uint64{1 << 3, 1<<12 | 1<<2, 1<<36 | 4, 1 << 63, math.MaxUint64}

// quiet returns a sea of the size of the example's, in which only the cell 1
// is open: some of its bottles strand, some are lost, and some stay for ever.
func quiet(t *testing.T) impl.Sea {
	t.Helper()
	s := example(t)
	for tide := range s.Tides {
		s.Tides[tide][1] = impl.Chances{3, 3, 3, 0, 3}
	}
	return s
}

// codesOfFates returns the codes of the functions that follow a fate, and
// fails if there is a result beside one.
func codesOfFates(t *testing.T, s impl.Sea, cell, tide int64, cells uint64) []any {
	t.Helper()
	list, lost, c1 := impl.FatesFrom(s, cell, tide)
	can, c2 := impl.CanReach(s, cell, tide, cells)
	hours, c3 := impl.LeastHoursTo(s, cell, tide, cells)
	way, c4 := impl.WayInHours(s, cell, tide, cells)
	back, c5 := impl.ReturnOf(s, cell, tide)
	checkZero(t, "FatesFrom", []any{list, lost, c1})
	checkZero(t, "CanReach", []any{can, c2})
	checkZero(t, "LeastHoursTo", []any{hours, c3})
	checkZero(t, "WayInHours", []any{way, c4})
	checkZero(t, "ReturnOf", []any{back, c5})
	return []any{c1, c2, c3, c4, c5}
}

// codesOfChances returns the codes of the functions of which the open fates
// are limited, first of those with a cell.
func codesOfChances(t *testing.T, s impl.Sea, cell, tide int64, cells uint64) []any {
	t.Helper()
	strand, c1 := impl.StrandChance(s, cell, tide)
	beach, c2 := impl.BeachChance(s, cell, tide, cells)
	lost, c3 := impl.LostChance(s, cell, tide)
	ever, c4 := impl.ForeverChance(s, cell, tide)
	hours, c5 := impl.ExpectedHours(s, cell, tide)
	safest, safe, c6 := impl.SafestCell(s, tide)
	fine, c7 := impl.CheckChances(s, cells, nil)
	checkZero(t, "StrandChance", []any{strand, c1})
	checkZero(t, "BeachChance", []any{beach, c2})
	checkZero(t, "LostChance", []any{lost, c3})
	checkZero(t, "ForeverChance", []any{ever, c4})
	checkZero(t, "ExpectedHours", []any{hours, c5})
	checkZero(t, "SafestCell", []any{safest, safe, c6})
	same(t, "CheckChances", "false", fine)
	return []any{c1, c2, c3, c4, c5, c6, c7}
}

// codesOfEnds returns the codes of the functions with a sea alone.
func codesOfEnds(t *testing.T, s impl.Sea) []any {
	t.Helper()
	strand, c1 := impl.CanStrand(s)
	lost, c2 := impl.CanBeLost(s)
	never, c3 := impl.NeverEnds(s)
	gyres, c4 := impl.GyresOf(s)
	open, c5 := impl.OpenFates(s)
	checkZero(t, "CanStrand", []any{strand, c1})
	checkZero(t, "CanBeLost", []any{lost, c2})
	checkZero(t, "NeverEnds", []any{never, c3})
	checkZero(t, "GyresOf", []any{gyres, c4})
	checkZero(t, "OpenFates", []any{open, c5})
	return []any{c1, c2, c3, c4, c5}
}

func TestEverOfGoodSeas(t *testing.T) {
	for tide := range int64(2) {
		same(t, "fates", "0 0 0 0 0", codesOfFates(t, quiet(t), 1, tide, bits(2, 0))...)
		same(t, "chances", "0 0 0 0 4 0 0", codesOfChances(t, quiet(t), 1, tide, bits(2, 0))...)
		same(t, "chances of land", "0 0 0 0 0 0 0", codesOfChances(t, quiet(t), 2, tide, bits(2, 0))...)
		same(t, "chances of what is not open", "0 0 0 0 4 0 0", codesOfChances(t, quiet(t), 8, tide, bits(2, 0))...)
	}
	same(t, "ends", "0 0 0 0 0", codesOfEnds(t, quiet(t))...)
}

// TestEverOfBadSeas has seas that are not valid, with good numbers and with
// bad ones.
func TestEverOfBadSeas(t *testing.T) {
	for name, s := range badSeas(t) {
		for _, n := range [][2]int64{{0, 0}, {2, 1}, {99, 0}, {0, 9}, {99, 9}, {-1, -1}} {
			for _, cells := range append(badCellBits, 0, 4) {
				same(t, name, "1 1 1 1 1", codesOfFates(t, s, n[0], n[1], cells)...)
				same(t, name, "1 1 1 1 1 1 1", codesOfChances(t, s, n[0], n[1], cells)...)
			}
		}
		same(t, name, "1 1 1 1 1", codesOfEnds(t, s)...)
	}
}

// TestFateNumbers has one number out of range, with others that are good: in
// seas with few open fates, and with so many that there is a limit.
func TestFateNumbers(t *testing.T) {
	for _, s := range []impl.Sea{quiet(t), example(t), eastward(t)} {
		for _, cell := range append(badCells, impl.Lost) {
			for tide := range int64(3) {
				same(t, "no cell", "2 2 2 2 2", codesOfFates(t, s, cell, tide, bits(2))...)
				same(t, "no cell", "2 2 2 2 2", codesOfChances(t, s, cell, tide, bits(2))[:5]...)
			}
		}
		for _, cell := range []int64{0, 1, 2, 8} {
			for _, tide := range badTides {
				same(t, "no tide", "2 2 2 2 2", codesOfFates(t, s, cell, tide, 0)...)
				same(t, "no tide", "2 2 2 2 2 2", codesOfChances(t, s, cell, tide, 0)[:6]...)
			}
			for _, cells := range badCellBits {
				same(t, "no cells", "0 2 2 2", codesOfFates(t, s, cell, 0, cells)[:4]...)
				c := codesOfChances(t, s, cell, 0, cells)
				same(t, "no cells", "2 2", c[1], c[6])
			}
		}
	}
}

// TestOpenLimit has 6, 7 and 8 open fates: 8 are too many, for land and for
// water that is not open as well, and whatever is told.
func TestOpenLimit(t *testing.T) {
	east, calm := westEast(0, 12), [2]impl.Chances{{12}, {12}}
	// By flood the cell 2 goes to a gyre, by ebb it is lost.
	half := [2]impl.Chances{westEast(12, 0)[0], {0, 12}}
	for _, one := range []struct {
		name  string
		list  [][2]impl.Chances
		want  string
		hours string
	}{
		{"6", [][2]impl.Chances{{}, calm, calm, east, east, east}, "0 0 0 0 0 0 0", "4"},
		{"7", [][2]impl.Chances{{}, calm, half, east, east, east}, "0 0 0 0 0 0 0", "4"},
		{"8", [][2]impl.Chances{{}, calm, east, east, east, east}, "3 3 3 3 3 3 3", "3"},
	} {
		s := rowOf(t, bits(0), one.list...)
		same(t, one.name, one.name, lengthOfOpen(s))
		for tide := range int64(2) {
			same(t, one.name, one.want, codesOfChances(t, s, 5, tide, s.Land)...)
			same(t, one.name+" and land", one.want, codesOfChances(t, s, 0, tide, 0)...)
			calmly := codesOfChances(t, s, 1, tide, 0)
			same(t, one.name+" and calm water", one.want[:7], calmly[:4]...)
			same(t, one.name+" and calm water", one.hours, calmly[4])
			same(t, "fates", "0 0 0 0 0", codesOfFates(t, s, 1, tide, bits(1))...)
		}
		same(t, "ends", "0 0 0 0 0", codesOfEnds(t, s)...)
	}
	list := make([][2]impl.Share, 36)
	fine, code := impl.CheckChances(eastward(t), 0, list)
	same(t, "a list of many open fates", "false 3", fine, code)
}

// TestEverStates has each of the codes behind the limit.
func TestEverStates(t *testing.T) {
	dry := still(t, 2, 1, bits(0, 1))
	for tide := range int64(2) {
		same(t, "no water", "0 0 0 0 0 6 0", codesOfChances(t, dry, 1, tide, bits(0))...)
		same(t, "none", "0 0 6 6 0", codesOfFates(t, dry, 1, tide, bits(0))...)
		same(t, "no way", "0 0 6 6 0", codesOfFates(t, quiet(t), 0, tide, bits(2))...)
		same(t, "no cells", "0 0 6 6 0", codesOfFates(t, eastward(t), 0, tide, 0)...)
		lost := lonely(t, impl.Chances{0, 12})
		same(t, "never back", "0 0 0 0 6", codesOfFates(t, lost, 0, tide, bits(0))...)
	}
	for _, tide := range badTides {
		_, _, code := impl.SafestCell(dry, tide)
		same(t, "no tide, and no water", "2", code)
	}
}
