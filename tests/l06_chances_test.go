package tests

import (
	"math/big"
	"math/rand"
	"slices"
	"testing"

	"loop.example/g01300/impl"
)

func TestOpenFates(t *testing.T) {
	for _, known := range everSeas() {
		var want []impl.Fate
		for _, f := range known.open() {
			want = append(want, impl.Fate{Cell: int8(f / 2), Tide: int8(f % 2)})
		}
		list, code := impl.OpenFates(known.s)
		if !slices.Equal(list, want) || code != impl.OK {
			t.Fatalf("%v: %v %d, want %v", known.s, list, code, want)
		}
	}
	same(t, "more than may be open", "72", lengthOfOpen(evenly(t, 6, 6)))
}

// lengthOfOpen returns how many fates are open.
func lengthOfOpen(s impl.Sea) int {
	list, _ := impl.OpenFates(s)
	return len(list)
}

// isRat reports whether a share is without common divisors, and a number.
func isRat(t *testing.T, x impl.Share, want *big.Rat) bool {
	t.Helper()
	return fractionOf(t, x).Cmp(want) == 0
}

// TestChances holds all chances of seas with few open fates against those that
// are solved by hand.
func TestChances(t *testing.T) {
	r := rand.New(rand.NewSource(60))
	few, _ := boundedSeas()
	counts := map[int]int{}
	for _, known := range few {
		s := known.s
		some := someCells(r, s)
		strands, beaches := known.solvedByHand(onBeaches(s.Land)), known.solvedByHand(onBeaches(some))
		losses := known.solvedByHand(beingLost())
		for _, cell := range cellsOf(s) {
			for tide := range int64(2) {
				f := numberOf(cell, tide)
				strand, one := impl.StrandChance(s, cell, tide)
				beach, two := impl.BeachChance(s, cell, tide, some)
				lost, three := impl.LostChance(s, cell, tide)
				ever, four := impl.ForeverChance(s, cell, tide)
				same(t, "codes", "0 0 0 0", one, two, three, four)
				rest := new(big.Rat).Sub(big.NewRat(1, 1), new(big.Rat).Add(strands[f], losses[f]))
				if !isRat(t, strand, strands[f]) || !isRat(t, beach, beaches[f]) || !isRat(t, lost, losses[f]) || !isRat(t, ever, rest) {
					t.Fatalf("%v, %d, %d: %v, %v on %d, %v, %v: want %v, %v, %v, %v", s, cell, tide, strand, beach, some, lost, ever, strands[f], beaches[f], losses[f], rest)
				}
			}
		}
		counts[len(known.open())]++
	}
	for open := range 8 {
		if counts[open] < 20 {
			t.Errorf("only %d seas have %d open fates", counts[open], open)
		}
	}
}

// surely returns the numbers of the fates from which a bottle ends at last: no
// water that is not open comes from them.
func (known *fates) surely(f int) bool {
	water, _ := waterAndLand(known.s)
	open := known.open()
	for _, cell := range water {
		for tide := range int64(2) {
			to := numberOf(cell, tide)
			if known.comes(f, to) && !slices.Contains(open, to) {
				return false
			}
		}
	}
	return true
}

func TestExpectedHours(t *testing.T) {
	few, _ := boundedSeas()
	never, maybe, many := 0, 0, 0
	for _, known := range few {
		s := known.s
		hours := known.solvedByHand(hoursLeft())
		for _, cell := range cellsOf(s) {
			for tide := range int64(2) {
				f := numberOf(cell, tide)
				x, code := impl.ExpectedHours(s, cell, tide)
				if !known.surely(f) {
					same(t, "never", "{0 0} 4", x, code)
					if slices.Contains(known.open(), f) {
						maybe++
					}
					never++
					continue
				}
				if code != impl.OK || !isRat(t, x, hours[f]) {
					t.Fatalf("%v, %d, %d: %v %d, want %v", s, cell, tide, x, code, hours[f])
				}
				if len(known.open()) > 3 {
					many++
				}
			}
		}
	}
	if never < 500 || maybe < 100 || many < 500 {
		t.Errorf("only %d never end, %d perhaps not, and %d have many others", never, maybe, many)
	}
}

// chancesOf returns the results of all functions with a fate alone.
func chancesOf(s impl.Sea, cell, tide int64) []any {
	strand, c1 := impl.StrandChance(s, cell, tide)
	lost, c2 := impl.LostChance(s, cell, tide)
	ever, c3 := impl.ForeverChance(s, cell, tide)
	hours, c4 := impl.ExpectedHours(s, cell, tide)
	return []any{strand, c1, lost, c2, ever, c3, hours, c4}
}

// TestChancesWritten has water that is not open, alone, beside what is open,
// and in one tide alone.
func TestChancesWritten(t *testing.T) {
	calm := [2]impl.Chances{{12}, {12}}
	thirds := impl.Chances{0, 4, 4, 0, 4}
	split := rowOf(t, bits(2), calm, [2]impl.Chances{thirds, thirds}, calm)
	apart := rowOf(t, bits(0, 2), calm, westEast(6, 0), calm, westEast(4, 8), calm)
	// By flood all goes to the gyre in the cell 0, by ebb to the land.
	sways := rowOf(t, bits(2), calm, [2]impl.Chances{westEast(12, 0)[0], westEast(0, 12)[0]}, calm)
	// By flood it stays, by ebb a part is lost, and another one strands.
	waits := rowOf(t, bits(1), [2]impl.Chances{{12}, {0, 9, 3}}, calm)
	for _, one := range []struct {
		name       string
		s          impl.Sea
		cell, tide int64
		want       string
	}{
		{"land", split, 2, 0, "{1 1} 0 {0 1} 0 {0 1} 0 {0 1} 0"},
		{"land that is far", apart, 0, 1, "{1 1} 0 {0 1} 0 {0 1} 0 {0 1} 0"},
		{"not open", split, 0, 1, "{0 1} 0 {0 1} 0 {1 1} 0 {0 0} 4"},
		{"three ends", split, 1, 0, "{1 3} 0 {1 3} 0 {1 3} 0 {0 0} 4"},
		{"only one end", apart, 1, 1, "{1 1} 0 {0 1} 0 {0 1} 0 {2 1} 0"},
		{"perhaps for ever", apart, 3, 0, "{1 3} 0 {0 1} 0 {2 3} 0 {0 0} 4"},
		{"for ever beside others", apart, 4, 0, "{0 1} 0 {0 1} 0 {1 1} 0 {0 0} 4"},
		{"not open by flood", sways, 1, 0, "{0 1} 0 {0 1} 0 {1 1} 0 {0 0} 4"},
		{"open by ebb", sways, 1, 1, "{1 1} 0 {0 1} 0 {0 1} 0 {1 1} 0"},
		{"an hour more by flood", waits, 0, 0, "{1 4} 0 {3 4} 0 {0 1} 0 {2 1} 0"},
		{"an hour by ebb", waits, 0, 1, "{1 4} 0 {3 4} 0 {0 1} 0 {1 1} 0"},
		{"all lost", lonely(t, impl.Chances{0, 5, 0, 7, 0}), 0, 0, "{0 1} 0 {1 1} 0 {0 1} 0 {1 1} 0"},
		{"late", lonely(t, impl.Chances{11, 0, 1, 0, 0}), 0, 1, "{1 1} 0 {0 1} 0 {0 1} 0 {12 1} 0"},
		{"no water", still(t, 1, 1, 1), 0, 0, "{1 1} 0 {0 1} 0 {0 1} 0 {0 1} 0"},
		{"no land", still(t, 6, 6, 0), 35, 1, "{0 1} 0 {0 1} 0 {1 1} 0 {0 0} 4"},
	} {
		same(t, one.name, one.want, chancesOf(one.s, one.cell, one.tide)...)
	}
}

// TestGreatChances has bottles that go back and forth for long before they end:
// the numbers of the equations are great.
func TestGreatChances(t *testing.T) {
	for _, list := range [][][2]impl.Chances{
		{westEast(0, 1), westEast(11, 1), westEast(11, 1), {}},
		{westEast(0, 11), westEast(11, 1), westEast(11, 1), {}},
		{westEast(0, 7), westEast(7, 5), westEast(11, 1), {}},
		{{{12}, {11, 0, 1}}, {{1, 0, 0, 0, 11}, {0, 0, 1, 0, 11}}, {{0, 0, 1, 0, 11}, {5, 0, 1, 0, 6}}, {}},
		{{{0, 1, 11}, {0, 0, 11, 1}}, {{0, 1, 11}, {0, 0, 5, 0, 7}}, {{0, 0, 1, 0, 11}, {0, 0, 1, 0, 11}}, {}},
	} {
		s := rowOf(t, bits(3), list...)
		known := fatesByHand(s)
		same(t, "open", "6", len(known.open()))
		strands, hours := known.solvedByHand(onBeaches(s.Land)), known.solvedByHand(hoursLeft())
		for _, f := range known.open() {
			strand, one := impl.StrandChance(s, int64(f/2), int64(f%2))
			x, two := impl.ExpectedHours(s, int64(f/2), int64(f%2))
			if !isRat(t, strand, strands[f]) || !isRat(t, x, hours[f]) || one != impl.OK || two != impl.OK {
				t.Fatalf("%v, %d: %v %d, %v %d, want %v, %v", s, f, strand, one, x, two, strands[f], hours[f])
			}
		}
	}
}

// TestBeachChanceWritten has cells that are land, water, both or neither.
func TestBeachChanceWritten(t *testing.T) {
	calm := [2]impl.Chances{{12}, {12}}
	s := rowOf(t, bits(0, 2, 4), calm, westEast(3, 9), calm, calm, calm)
	for _, one := range []struct {
		name  string
		cell  int64
		cells uint64
		want  string
	}{
		{"the nearer one", 1, bits(2), "{3 4} 0"},
		{"the other one", 1, bits(0), "{1 4} 0"},
		{"both", 1, bits(0, 2), "{1 1} 0"},
		{"one that is not reached", 1, bits(4), "{0 1} 0"},
		{"none", 1, 0, "{0 1} 0"},
		{"all cells", 1, bits(0, 1, 2, 3, 4), "{1 1} 0"},
		{"its own cell of water", 1, bits(1), "{0 1} 0"},
		{"water beside land", 1, bits(1, 2, 3), "{3 4} 0"},
		{"land that is given", 2, bits(0, 2), "{1 1} 0"},
		{"land that is not", 2, bits(0, 1, 3, 4), "{0 1} 0"},
		{"land of none", 0, 0, "{0 1} 0"},
		{"calm water that is given", 3, bits(0, 1, 2, 3, 4), "{0 1} 0"},
	} {
		for tide := range int64(2) {
			x, code := impl.BeachChance(s, one.cell, tide, one.cells)
			same(t, one.name, one.want, x, code)
		}
	}
}

func TestSafestCell(t *testing.T) {
	few, _ := boundedSeas()
	counts := map[bool]int{}
	for _, known := range few {
		losses := known.solvedByHand(beingLost())
		water, _ := waterAndLand(known.s)
		for tide := range int64(2) {
			best := -1
			for _, cell := range water {
				if best < 0 || losses[numberOf(cell, tide)].Cmp(losses[numberOf(int64(best), tide)]) < 0 {
					best = int(cell)
				}
			}
			cell, x, code := impl.SafestCell(known.s, tide)
			if best < 0 {
				same(t, "no water", "0 {0 0} 6", cell, x, code)
				continue
			}
			safe := new(big.Rat).Sub(big.NewRat(1, 1), losses[numberOf(int64(best), tide)])
			if cell != int64(best) || !isRat(t, x, safe) || code != impl.OK {
				t.Fatalf("%v, %d: %d %v %d, want %d %v", known.s, tide, cell, x, code, best, safe)
			}
			counts[safe.IsInt()]++
		}
	}
	if counts[false] < 50 || counts[true] < 50 {
		t.Errorf("too few of one kind: %v", counts)
	}
}

func TestSafestCellWritten(t *testing.T) {
	calm := [2]impl.Chances{{12}, {12}}
	lost := [2]impl.Chances{{0, 12}, {0, 12}}
	half := [2]impl.Chances{{6, 6}, {6, 3, 3}}
	for _, one := range []struct {
		name string
		s    impl.Sea
		tide int64
		want string
	}{
		{"all are lost", rowOf(t, 0, lost, lost), 0, "0 {0 1} 0"},
		{"the first one that stays", rowOf(t, bits(2), lost, calm, calm, calm), 1, "1 {1 1} 0"},
		{"the first one of several", rowOf(t, 0, calm, lost, calm), 0, "0 {1 1} 0"},
		{"land is not safe", rowOf(t, bits(0), calm, lost), 0, "1 {0 1} 0"},
		{"by flood", rowOf(t, bits(1), half, calm), 0, "0 {1 6} 0"},
		{"by ebb", rowOf(t, bits(1), half, calm), 1, "0 {1 3} 0"},
		{"no water", still(t, 2, 1, bits(0, 1)), 0, "0 {0 0} 6"},
	} {
		cell, x, code := impl.SafestCell(one.s, one.tide)
		same(t, one.name, one.want, cell, x, code)
	}
}

// toldChances returns the list of all chances to strand on some cells.
func toldChances(t *testing.T, s impl.Sea, cells uint64) [][2]impl.Share {
	t.Helper()
	list := make([][2]impl.Share, 36)
	for i := range list {
		list[i] = [2]impl.Share{{P: 0, Q: 1}, {P: 0, Q: 1}}
	}
	for _, cell := range cellsOf(s) {
		for tide := range int64(2) {
			x, code := impl.BeachChance(s, cell, tide, cells)
			if code != impl.OK {
				t.Fatalf("BeachChance %d, %d: code %d", cell, tide, code)
			}
			list[cell][tide] = x
		}
	}
	return list
}

// TestCheckChances changes one share after the other of what is told: only
// equal numbers are accepted, and those that are not solved for as they are.
func TestCheckChances(t *testing.T) {
	r := rand.New(rand.NewSource(66))
	few, _ := boundedSeas()
	for i, known := range few {
		s := known.s
		cells := someCells(r, s)
		list := toldChances(t, s, cells)
		fine, code := impl.CheckChances(s, cells, list)
		same(t, "told", "true 0", fine, code)
		f := r.Intn(72)
		if open := known.open(); len(open) > 0 && i%2 == 0 {
			f = open[r.Intn(len(open))]
		}
		isOpen := slices.Contains(known.open(), f)
		right := list[f/2][f%2]
		for _, by := range []int64{2, 12, 1000000000 / right.Q, 1000000000/right.Q + 1} {
			list[f/2][f%2] = impl.Share{P: right.P * by, Q: right.Q * by}
			fine, code := impl.CheckChances(s, cells, list)
			if want := isOpen && right.Q*by <= 1000000000; fine != want || code != impl.OK {
				t.Fatalf("%v, %d: %v for %v at %d: %v %d", s, cells, list[f/2][f%2], right, f, fine, code)
			}
		}
		for _, wrong := range []impl.Share{
			{},
			{P: right.P + 1, Q: right.Q},
			{P: right.P - 1, Q: right.Q},
			{P: right.P + right.Q, Q: right.Q},
			{P: right.P*100 + 1, Q: right.Q * 100},
			{P: right.P, Q: 0},
			{P: -right.P, Q: -right.Q},
			{P: 1, Q: 13},
		} {
			list[f/2][f%2] = wrong
			fine, code := impl.CheckChances(s, cells, list)
			same(t, "wrong", "false 0", fine, code)
		}
	}
}

// TestCheckChancesCells asks for the chances of other cells than those that
// are told.
func TestCheckChancesCells(t *testing.T) {
	few, _ := boundedSeas()
	for _, known := range few {
		s := known.s
		all := toldChances(t, s, s.Land)
		for _, cells := range []uint64{s.Land, allBits(s), 0, s.Land & (s.Land - 1)} {
			fine, code := impl.CheckChances(s, cells, all)
			same(t, "cells", "true 0", fine == (cells&s.Land == s.Land), code)
		}
	}
}

func TestCheckChancesWritten(t *testing.T) {
	calm := [2]impl.Chances{{12}, {12}}
	s := rowOf(t, bits(1), [2]impl.Chances{{6, 0, 3, 0, 3}, {6, 0, 3, 0, 3}}, calm, calm, [2]impl.Chances{{0, 12}, {0, 6, 6}})
	none, half, one := impl.Share{P: 0, Q: 1}, impl.Share{P: 1, Q: 2}, impl.Share{P: 1, Q: 1}
	for _, try := range []struct {
		name   string
		change func(list [][2]impl.Share) [][2]impl.Share
		want   string
	}{
		{"as told", func(list [][2]impl.Share) [][2]impl.Share { return list }, "true 0"},
		{"with common divisors", func(list [][2]impl.Share) [][2]impl.Share {
			list[0] = [2]impl.Share{{P: 2, Q: 4}, {P: 500000000, Q: 1000000000}}
			return list
		}, "true 0"},
		{"0 with any divisor where it is open", func(list [][2]impl.Share) [][2]impl.Share {
			list[3] = [2]impl.Share{{P: 0, Q: 7}, {P: 0, Q: 1000000000}}
			return list
		}, "true 0"},
		{"a divisor that is too great", func(list [][2]impl.Share) [][2]impl.Share { list[3][0].Q = 1000000001; return list }, "false 0"},
		{"a number that is too great", func(list [][2]impl.Share) [][2]impl.Share {
			list[0][1] = impl.Share{P: 1000000001, Q: 2000000002}
			return list
		}, "false 0"},
		{"products that wrap around", func(list [][2]impl.Share) [][2]impl.Share {
			list[0][1] = impl.Share{P: 1<<62 + 1, Q: 2}
			return list
		}, "false 0"},
		{"negative both", func(list [][2]impl.Share) [][2]impl.Share { list[0][0] = impl.Share{P: -1, Q: -2}; return list }, "false 0"},
		{"a divisor of 0", func(list [][2]impl.Share) [][2]impl.Share { list[3][0].Q = 0; return list }, "false 0"},
		{"2 / 2 on land", func(list [][2]impl.Share) [][2]impl.Share { list[1][1] = impl.Share{P: 2, Q: 2}; return list }, "false 0"},
		{"0 on land", func(list [][2]impl.Share) [][2]impl.Share { list[1][0] = none; return list }, "false 0"},
		{"1 / 2 on land", func(list [][2]impl.Share) [][2]impl.Share { list[1][0] = half; return list }, "false 0"},
		{"0 / 2 where it is not open", func(list [][2]impl.Share) [][2]impl.Share { list[2][0].Q = 2; return list }, "false 0"},
		{"1 where it is not open", func(list [][2]impl.Share) [][2]impl.Share { list[2] = [2]impl.Share{one, one}; return list }, "false 0"},
		{"0 / 2 beside the grid", func(list [][2]impl.Share) [][2]impl.Share { list[4][1].Q = 2; return list }, "false 0"},
		{"1 beside the grid", func(list [][2]impl.Share) [][2]impl.Share { list[7][0] = one; return list }, "false 0"},
		{"zero at the last number", func(list [][2]impl.Share) [][2]impl.Share { list[35][1] = impl.Share{}; return list }, "false 0"},
		{"1 / 3 where it is open", func(list [][2]impl.Share) [][2]impl.Share { list[0][0].Q = 3; return list }, "false 0"},
		{"both wrong where it is open", func(list [][2]impl.Share) [][2]impl.Share { list[0] = [2]impl.Share{one, one}; return list }, "false 0"},
		{"one pair less", func(list [][2]impl.Share) [][2]impl.Share { return list[:35] }, "false 0"},
		{"one pair more", func(list [][2]impl.Share) [][2]impl.Share { return append(list, [2]impl.Share{none, none}) }, "false 0"},
		{"only cells", func(list [][2]impl.Share) [][2]impl.Share { return list[:4] }, "false 0"},
		{"empty", func(list [][2]impl.Share) [][2]impl.Share { return list[:0] }, "false 0"},
		{"nil", func([][2]impl.Share) [][2]impl.Share { return nil }, "false 0"},
		{"very many", func([][2]impl.Share) [][2]impl.Share { return make([][2]impl.Share, 250000) }, "false 0"},
	} {
		list := make([][2]impl.Share, 36)
		for i := range list {
			list[i] = [2]impl.Share{none, none}
		}
		list[0], list[1] = [2]impl.Share{half, half}, [2]impl.Share{one, one}
		fine, code := impl.CheckChances(s, bits(1), try.change(list))
		same(t, try.name, try.want, fine, code)
	}
}
