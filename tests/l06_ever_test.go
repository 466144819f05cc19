package tests

import (
	"math/rand"
	"slices"
	"testing"

	"loop.example/g01300/impl"
)

// TestEverExample has the example of chapter 6.
func TestEverExample(t *testing.T) {
	s := lonely(t, impl.Chances{6, 0, 3, 0, 3})
	for tide := range int64(2) {
		strand, one := impl.StrandChance(s, 0, tide)
		lost, two := impl.LostChance(s, 0, tide)
		hours, three := impl.ExpectedHours(s, 0, tide)
		same(t, "both end", "{1 2} 0 {1 2} 0 {2 1} 0", strand, one, lost, two, hours, three)
		calm := lonely(t, impl.Chances{12, 0, 0, 0, 0})
		gyres, four := impl.GyresOf(calm)
		back, five := impl.ReturnOf(calm, 0, tide)
		same(t, "a gyre", "[1] 0 2 0", gyres, four, back, five)
	}
}

func TestEverConstants(t *testing.T) {
	f := impl.Fate{Cell: 5, Tide: 1}
	var cell, tide int8 = f.Cell, f.Tide
	same(t, "constants", "7 {5 1} 5 1", impl.MaxOpen, f, cell, tide)
}

func TestFatesFrom(t *testing.T) {
	for _, known := range everSeas() {
		s := known.s
		for _, cell := range cellsOf(s) {
			for tide := range int64(2) {
				var want []impl.Fate
				for to := range 72 {
					if known.comes(numberOf(cell, tide), to) {
						want = append(want, impl.Fate{Cell: int8(to / 2), Tide: int8(to % 2)})
					}
				}
				list, lost, code := impl.FatesFrom(s, cell, tide)
				if !slices.Equal(list, want) || lost != known.mayBeLost(numberOf(cell, tide)) || code != impl.OK {
					t.Fatalf("%v, %d, %d: %v %v %d, want %v", s, cell, tide, list, lost, code, want)
				}
			}
		}
	}
}

func TestFatesFromWritten(t *testing.T) {
	east := westEast(0, 12)
	turn := [2]impl.Chances{east[0], westEast(12, 0)[0]}
	for _, one := range []struct {
		name       string
		s          impl.Sea
		cell, tide int64
		want       string
	}{
		{"land", lonely(t, impl.Chances{0, 12}), 1, 1, "[{1 0} {1 1}] false 0"},
		{"calm water", lonely(t, impl.Chances{12}), 0, 1, "[{0 0} {0 1}] false 0"},
		{"lost at once", lonely(t, impl.Chances{0, 12}), 0, 1, "[{0 1}] true 0"},
		{"to land at once", lonely(t, impl.Chances{0, 0, 12}), 0, 0, "[{0 0} {1 0} {1 1}] false 0"},
		{"lost by a part", lonely(t, impl.Chances{11, 0, 0, 1, 0}), 0, 0, "[{0 0} {0 1}] true 0"},
		{"lost at the end", rowOf(t, 0, east, east, east), 0, 0, "[{0 0} {1 1} {2 0}] true 0"},
		{"to and fro", rowOf(t, 0, turn, turn), 0, 0, "[{0 0} {1 1}] false 0"},
		{"fro", rowOf(t, 0, turn, turn), 0, 1, "[{0 1}] true 0"},
		{"lost by the other tide", rowOf(t, 0, turn, turn), 1, 0, "[{1 0}] true 0"},
	} {
		list, lost, code := impl.FatesFrom(one.s, one.cell, one.tide)
		same(t, one.name, one.want, list, lost, code)
	}
}

// firstWays returns, for each number of hours, the way to each cell in just so
// many hours that comes first as a list.
func firstWays(s impl.Sea, cell, tide int64) []map[int64][]int64 {
	list := []map[int64][]int64{{cell: {cell}}}
	for hour := range 72 {
		next := map[int64][]int64{}
		for from, way := range list[hour] {
			for _, f := range nextByHand(s, numberOf(from, (tide+int64(hour))%2)) {
				longer := append(slices.Clone(way), int64(f/2))
				if known, is := next[int64(f/2)]; !is || slices.Compare(longer, known) < 0 {
					next[int64(f/2)] = longer
				}
			}
		}
		list = append(list, next)
	}
	return list
}

// wayByHand returns the way in the least hours to one of some cells.
func wayByHand(ways []map[int64][]int64, cells uint64) []int64 {
	var best []int64
	for _, some := range ways {
		for to, way := range some {
			if cells&bits(int(to)) != 0 && (best == nil || slices.Compare(way, best) < 0) {
				best = way
			}
		}
		if best != nil {
			return best
		}
	}
	return nil
}

func TestWaysInHours(t *testing.T) {
	r := rand.New(rand.NewSource(6))
	long, none := 0, 0
	for _, known := range everSeas() {
		s := known.s
		cells := cellsOf(s)
		cell, tide := cells[r.Intn(len(cells))], int64(r.Intn(2))
		ways := firstWays(s, cell, tide)
		for _, to := range append(singly(cells), someCells(r, s), someCells(r, s), 0, s.Land, allBits(s)) {
			want := wayByHand(ways, to)
			can, one := impl.CanReach(s, cell, tide, to)
			hours, two := impl.LeastHoursTo(s, cell, tide, to)
			way, three := impl.WayInHours(s, cell, tide, to)
			if want == nil {
				none++
				same(t, "never", "false 0 0 6 [] 6", can, one, hours, two, way, three)
				continue
			}
			if !can || one != impl.OK || hours != int64(len(want)-1) || two != impl.OK || !slices.Equal(way, want) || three != impl.OK {
				t.Fatalf("%v, %d, %d, %d: %v %d, %d %d, %v %d, want %v", s, cell, tide, to, can, one, hours, two, way, three, want)
			}
			if len(want) > 6 {
				long++
			}
		}
	}
	if long < 50 || none < 500 {
		t.Errorf("only %d ways of more than 5 hours, and %d that are none", long, none)
	}
}

// singly returns the bits of each cell alone.
func singly(cells []int64) []uint64 {
	var list []uint64
	for _, cell := range cells {
		list = append(list, bits(int(cell)))
	}
	return list
}

func TestWaysInHoursWritten(t *testing.T) {
	grid := evenly(t, 3, 3)
	east, west := westEast(0, 12), westEast(12, 0)
	waits := [2]impl.Chances{{12}, east[1]}
	for _, one := range []struct {
		name       string
		s          impl.Sea
		cell, tide int64
		cells      uint64
		want       string
	}{
		{"there already", grid, 7, 1, bits(0, 7, 14), "true 0 0 0 [7] 0"},
		{"all others", grid, 7, 1, bits(0, 1, 2, 6, 8, 12, 13, 14), "true 0 1 0 [7 1] 0"},
		{"the first of two ways", grid, 0, 0, bits(7), "true 0 2 0 [0 1 7] 0"},
		{"the first of two ways back", grid, 14, 1, bits(7), "true 0 2 0 [14 8 7] 0"},
		{"the first of six ways", grid, 14, 0, bits(0), "true 0 4 0 [14 8 2 1 0] 0"},
		{"the first of two cells", grid, 7, 0, bits(2, 12), "true 0 2 0 [7 1 2] 0"},
		{"the nearest of two cells", grid, 12, 0, bits(2, 8), "true 0 3 0 [12 6 7 8] 0"},
		{"the first beginning, and not the first end", grid, 7, 0, bits(6, 12, 14), "true 0 1 0 [7 6] 0"},
		{"none", grid, 7, 0, 0, "false 0 0 6 [] 6"},
		{"against the current", rowOf(t, 0, east, east, west), 1, 0, bits(0), "false 0 0 6 [] 6"},
		{"in this tide", rowOf(t, 0, waits, waits, waits), 0, 1, bits(1), "true 0 1 0 [0 1] 0"},
		{"in the other tide", rowOf(t, 0, waits, waits, waits), 0, 0, bits(2), "true 0 4 0 [0 0 1 1 2] 0"},
		{"land", lonely(t, impl.Chances{0, 0, 12}), 1, 0, bits(1), "true 0 0 0 [1] 0"},
		{"from land", lonely(t, impl.Chances{0, 0, 12}), 1, 0, bits(0), "false 0 0 6 [] 6"},
		{"across land", rowOf(t, bits(1), east, east, east), 0, 0, bits(2), "false 0 0 6 [] 6"},
	} {
		can, c1 := impl.CanReach(one.s, one.cell, one.tide, one.cells)
		hours, c2 := impl.LeastHoursTo(one.s, one.cell, one.tide, one.cells)
		way, c3 := impl.WayInHours(one.s, one.cell, one.tide, one.cells)
		same(t, one.name, one.want, can, c1, hours, c2, way, c3)
	}
}

// TestLongWay goes on for more hours than spreads have; there is no way back.
func TestLongWay(t *testing.T) {
	s := snake(t, 1)
	for _, tide := range []int64{0, 1} {
		hours, one := impl.LeastHoursTo(s, 0, tide, bits(23))
		way, two := impl.WayInHours(s, 0, tide, bits(23))
		_, three := impl.LeastHoursTo(s, 18, tide, bits(0))
		same(t, "long", "18 0 [0 1 2 3 4 5 11 10 9 8 7 6 12 18 19 20 21 22 23] 0 6", hours, one, way, two, three)
	}
}

// fatesWhere returns for each tide the cells of water of which the fates have
// something.
func fatesWhere(s impl.Sea, has func(f int) bool) [2]uint64 {
	var sets [2]uint64
	water, _ := waterAndLand(s)
	for _, cell := range water {
		for tide := range int64(2) {
			if has(numberOf(cell, tide)) {
				sets[tide] |= bits(int(cell))
			}
		}
	}
	return sets
}

func TestEnds(t *testing.T) {
	for _, known := range everSeas() {
		s := known.s
		strand, one := impl.CanStrand(s)
		lost, two := impl.CanBeLost(s)
		never, three := impl.NeverEnds(s)
		same(t, "codes", "0 0 0", one, two, three)
		if want := fatesWhere(s, known.mayStrand); strand != want {
			t.Fatalf("%v: %v may strand, want %v", s, strand, want)
		}
		if want := fatesWhere(s, known.mayBeLost); lost != want {
			t.Fatalf("%v: %v may be lost, want %v", s, lost, want)
		}
		if want := fatesWhere(s, func(f int) bool { return !known.mayStrand(f) && !known.mayBeLost(f) }); never != want {
			t.Fatalf("%v: %v never ends, want %v", s, never, want)
		}
	}
}

func TestEndsWritten(t *testing.T) {
	east := westEast(0, 12)
	turn := [2]impl.Chances{east[0], westEast(12, 0)[0]}
	for _, one := range []struct {
		name string
		s    impl.Sea
		want string
	}{
		{"both", lonely(t, impl.Chances{6, 0, 3, 0, 3}), "[1 1] [1 1] [0 0]"},
		{"neither", lonely(t, impl.Chances{12}), "[0 0] [0 0] [1 1]"},
		{"all strands", lonely(t, impl.Chances{0, 0, 12}), "[1 1] [0 0] [0 0]"},
		{"by each tide another one", rowOf(t, 0, turn, turn), "[0 0] [2 1] [1 2]"},
		{"by ebb alone", rowOf(t, bits(2), turn, turn, turn), "[2 0] [0 1] [1 2]"},
		{"all land", still(t, 2, 2, bits(0, 1, 6, 7)), "[0 0] [0 0] [0 0]"},
		{"land that is not reached", still(t, 3, 1, bits(1)), "[0 0] [0 0] [5 5]"},
	} {
		strand, _ := impl.CanStrand(one.s)
		lost, _ := impl.CanBeLost(one.s)
		never, _ := impl.NeverEnds(one.s)
		same(t, one.name, one.want, strand, lost, never)
	}
}

// gyresByHand puts each fate together with all that come from it and from which
// it comes, and keeps what cannot be left.
func (known *fates) gyresByHand() []uint64 {
	var gyres []uint64
	water, _ := waterAndLand(known.s)
	seen := map[int]bool{}
	for _, cell := range water {
		for tide := range int64(2) {
			f := numberOf(cell, tide)
			if seen[f] || known.after[f][f] == 0 {
				continue
			}
			closed, cells := partsLost(known.s, f) == 0, uint64(0)
			for to := range 72 {
				if known.after[f][to] == 0 {
					continue
				}
				back := known.after[to][f] > 0
				closed = closed && back && partsLost(known.s, to) == 0
				if back {
					seen[to] = true
					cells |= bits(to / 2)
				}
			}
			if closed {
				gyres = append(gyres, cells)
			}
		}
	}
	return gyres
}

func TestGyresOf(t *testing.T) {
	several, wide := 0, 0
	for _, known := range everSeas() {
		want := known.gyresByHand()
		gyres, code := impl.GyresOf(known.s)
		if !slices.Equal(gyres, want) || code != impl.OK {
			t.Fatalf("%v: %v %d, want %v", known.s, gyres, code, want)
		}
		if len(want) > 1 {
			several++
		}
		for _, cells := range want {
			if cells&(cells-1) != 0 {
				wide++
			}
		}
	}
	if several < 50 || wide < 10 {
		t.Errorf("only %d seas with several gyres, and %d gyres of several cells", several, wide)
	}
}

func TestGyresOfWritten(t *testing.T) {
	east, west := westEast(0, 12), westEast(12, 0)
	calm := [2]impl.Chances{{12}, {12}}
	turn := [2]impl.Chances{east[0], west[0]}
	back := [2]impl.Chances{west[0], east[0]}
	for _, one := range []struct {
		name string
		s    impl.Sea
		want string
	}{
		{"each cell alone", still(t, 3, 1, 0), "[1 2 4] 0"},
		{"land is none", still(t, 3, 1, bits(1)), "[1 4] 0"},
		{"no water", still(t, 2, 1, bits(0, 1)), "[] 0"},
		{"two with the same cells", rowOf(t, 0, east, west), "[3 3] 0"},
		{"one of two cells", rowOf(t, 0, turn, turn), "[3] 0"},
		{"one of two cells, by ebb first", rowOf(t, 0, back, back), "[3] 0"},
		{"all fates of two cells", rowOf(t, 0, westEast(0, 6), westEast(6, 0)), "[3] 0"},
		{"something is lost", rowOf(t, 0, westEast(1, 6), westEast(6, 0)), "[] 0"},
		{"something strands", rowOf(t, bits(2), westEast(0, 6), westEast(6, 1), calm), "[] 0"},
		{"another one is left", rowOf(t, 0, westEast(0, 6), westEast(6, 1), calm), "[4] 0"},
		{"nothing comes back", rowOf(t, 0, westEast(0, 1), calm, westEast(1, 0)), "[2] 0"},
		{"beside each other", rowOf(t, 0, turn, turn, back, back), "[3 12] 0"},
		{"by the least number, and not by bits", rowOf(t, 0, [2]impl.Chances{east[0], east[0]}, [2]impl.Chances{west[0], {0, 0, 6, 0, 6}}, back), "[7 3] 0"},
	} {
		gyres, code := impl.GyresOf(one.s)
		same(t, one.name, one.want, gyres, code)
	}
}

func TestReturnOf(t *testing.T) {
	counts := map[int]int{}
	for _, known := range everSeas() {
		for _, cell := range cellsOf(known.s) {
			for tide := range int64(2) {
				f := numberOf(cell, tide)
				hours, code := impl.ReturnOf(known.s, cell, tide)
				want := known.after[f][f]
				if hours != int64(want) || (code == impl.OK) != (want > 0) || code != impl.OK && code != impl.ErrNotFound {
					t.Fatalf("%v, %d, %d: %d %d, want %d", known.s, cell, tide, hours, code, want)
				}
				counts[want]++
			}
		}
	}
	if counts[0] < 100 || counts[2] < 100 || counts[4] < 10 {
		t.Errorf("too few hours of some number: %v", counts)
	}
}

func TestReturnOfWritten(t *testing.T) {
	east, west := westEast(0, 12), westEast(12, 0)
	ring := still(t, 2, 2, 0)
	for cell, way := range map[int]int{0: impl.WyEast, 1: impl.WySouth, 7: impl.WyWest, 6: impl.WyNorth} {
		c := impl.Chances{}
		c[way] = 12
		ring.Tides[0][cell], ring.Tides[1][cell] = c, c
	}
	waits := [2]impl.Chances{east[0], {12}}
	returns := [2]impl.Chances{west[0], {12}}
	for _, one := range []struct {
		name       string
		s          impl.Sea
		cell, tide int64
		want       string
	}{
		{"stays", still(t, 1, 1, 0), 0, 1, "2 0"},
		{"land", still(t, 1, 1, 1), 0, 0, "2 0"},
		{"land by ebb", still(t, 1, 1, 1), 0, 1, "2 0"},
		{"to and fro", rowOf(t, 0, east, west), 0, 0, "2 0"},
		{"around", ring, 6, 1, "4 0"},
		{"waiting each other hour", rowOf(t, 0, waits, returns), 0, 0, "4 0"},
		{"waiting first", rowOf(t, 0, waits, returns), 0, 1, "4 0"},
		{"never, as it is lost", rowOf(t, 0, east, east), 0, 0, "0 6"},
		{"never, as it strands", lonely(t, impl.Chances{0, 0, 12}), 0, 1, "0 6"},
		{"in the other tide alone", rowOf(t, 0, [2]impl.Chances{{12}, east[0]}, [2]impl.Chances{{12}, {12}}), 0, 1, "0 6"},
		{"by a single part", lonely(t, impl.Chances{1, 11}), 0, 1, "2 0"},
	} {
		hours, code := impl.ReturnOf(one.s, one.cell, one.tide)
		same(t, one.name, one.want, hours, code)
	}
}
