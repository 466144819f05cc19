package tests

import (
	"math/rand"
	"slices"
	"testing"

	"loop.example/g01300/impl"
)

// callsOfMaps returns calls of all functions of chapter 5. Numbers are put in
// the place of each argument in turn, the others being good.
func callsOfMaps(s, other impl.Sea) []call {
	var list []call
	add := func(name string, run func() []any) { list = append(list, call{name, run}) }
	water, _ := waterAndLand(s)
	cell := append(water, 0)[0]
	lists := listsToTry(s)
	if impl.ValidSea(s) && len(water) > 0 {
		if can := possibleFinds(s, cell, 1); len(can) > 0 {
			lists = append(lists, can[:1], can[len(can)/2:][:1])
		}
	}
	for i, finds := range lists {
		maps := []impl.Sea{s, other, other, s}[i%3:]
		for _, n := range hardNumbers {
			for _, at := range [][2]int64{{n, 1}, {cell, n}} {
				add("ScoresOf", func() []any { x, c := impl.ScoresOf(s, at[0], at[1], finds); return []any{x, c} })
				add("ScoreOf", func() []any { x, c := impl.ScoreOf(s, at[0], at[1], finds); return []any{x, c} })
				add("WorstFind", func() []any { x, c := impl.WorstFind(s, at[0], at[1], finds); return []any{x, c} })
				add("BetterMap", func() []any { x, y, c := impl.BetterMap(s, other, at[0], at[1], finds); return []any{x, y, c} })
				add("RankMaps", func() []any { x, c := impl.RankMaps(maps, at[0], at[1], finds); return []any{x, c} })
			}
		}
		for _, n := range []int64{-1 << 63, -1, 0, 1, 2, 14, 20, 21, 1 << 32} {
			add("BestRepair", func() []any { x, y, c := impl.BestRepair(s, other, n, 1, finds); return []any{x, y, c} })
			add("BestRepair", func() []any { x, y, c := impl.BestRepair(s, other, cell, n, finds); return []any{x, y, c} })
			add("RepairMap", func() []any { x, y, c := impl.RepairMap(s, other, cell, 1, finds, n); return []any{x, y, c} })
			add("RepairMap", func() []any { x, y, c := impl.RepairMap(s, other, n, 0, finds, 2); return []any{x, y, c} })
		}
	}
	return append(list, callsOfDifferences(s, other, cell)...)
}

// callsOfDifferences returns calls of the functions with logarithms, hours and
// spots.
func callsOfDifferences(s, other impl.Sea, cell int64) []call {
	var list []call
	add := func(name string, run func() []any) { list = append(list, call{name, run}) }
	add("DifferingSpots", func() []any { x, c := impl.DifferingSpots(s, other); return []any{x, c} })
	for _, n := range hardNumbers {
		add("LogOf", func() []any { x, c := impl.LogOf(n); return []any{x, c} })
		for _, at := range [][4]int64{{n, 1, 3, 8}, {cell, n, 4, 8}, {cell, 0, n, 8}, {cell, 1, 5, n}} {
			add("MapDistance", func() []any { x, c := impl.MapDistance(s, other, at[0], at[1], at[2]); return []any{x, c} })
			add("TellingFind", func() []any { x, y, c := impl.TellingFind(s, other, at[0], at[1], at[2]); return []any{x, y, c} })
			add("ExpectedGain", func() []any { x, c := impl.ExpectedGain(s, other, at[0], at[1], at[2]); return []any{x, c} })
			add("FindsNeeded", func() []any { x, c := impl.FindsNeeded(s, other, at[0], at[1], at[2], at[3]); return []any{x, c} })
		}
		for _, m := range hardNumbers {
			x := impl.Spot{Tide: int8(n), Cell: int8(m)}
			add("RepairAt", func() []any { y, c := impl.RepairAt(s, other, x); return []any{y, c} })
			add("SameSpots", func() []any { return []any{impl.SameSpots([]impl.Spot{x, {}}, []impl.Spot{{}, x})} })
		}
	}
	return list
}

// otherMap returns a sea with the same coasts, if there is water.
func otherMap(s impl.Sea) impl.Sea {
	if water, _ := waterAndLand(s); !impl.ValidSea(s) || len(water) == 0 {
		return s
	}
	return otherChances(rand.New(rand.NewSource(2)), s, 9)
}

// TestPromise1Maps looks at finds, seas and spots behind all calls, at the
// unused capacity behind them, and whether results share memory.
func TestPromise1Maps(t *testing.T) {
	for _, c := range someMaps()[:400] {
		finds, memory := withCapacity(c.finds)
		before := slices.Clone(memory)
		guard := impl.Sea{Wide: 77}
		seas := []impl.Sea{guard, c.a, c.b, c.a, guard, guard}
		run := func() []any {
			scores, _ := impl.ScoresOf(c.a, c.cell, c.begin, finds)
			order, _ := impl.RankMaps(seas[1:4], c.cell, c.begin, finds)
			differ, _ := impl.DifferingSpots(c.a, c.b)
			_, made, _ := impl.RepairMap(c.a, c.b, c.cell, c.begin, finds, 3)
			return []any{scores[:len(scores):cap(scores)], order[:len(order):cap(order)], differ, made}
		}
		first := run()
		want := kept(first)
		impl.ScoreOf(c.a, c.cell, c.begin, finds)
		impl.WorstFind(c.a, c.cell, c.begin, finds)
		impl.BetterMap(c.a, c.b, c.cell, c.begin, finds)
		impl.BestRepair(c.a, c.b, c.cell, c.begin, finds)
		if !slices.Equal(memory, before) || !slices.Equal(seas, []impl.Sea{guard, c.a, c.b, c.a, guard, guard}) {
			t.Fatalf("%v has been changed: %v, %v", before, memory, seas)
		}
		for i, result := range first {
			switch list := result.(type) {
			case []int64:
				spoil([]any{list[:cap(list)]})
			case []impl.Spot:
				spoil([]any{list[:cap(list)]})
			}
			for j := i + 1; j < len(first); j++ {
				if !slices.Equal(lengthAndElements(first[j]), lengthAndElements(want[j])) {
					t.Fatalf("the results %d and %d share memory", i, j)
				}
			}
		}
		if !slices.Equal(memory, before) {
			t.Fatalf("a result shares memory with the finds")
		}
		for i, again := range kept(run()) {
			if !slices.Equal(lengthAndElements(again), lengthAndElements(want[i])) {
				t.Fatalf("%v, then %v", want[i], again)
			}
		}
	}
}

// lengthAndElements returns a list of numbers or spots as one of numbers.
func lengthAndElements(list any) []int64 {
	var all []int64
	switch list := list.(type) {
	case []int64:
		all = append(all, list...)
	case []impl.Spot:
		for _, x := range list {
			all = append(all, int64(x.Tide), int64(x.Cell))
		}
	}
	return all
}

// TestPromise10Logarithms goes through numbers in ascending order: all small
// ones, and some of all sizes.
func TestPromise10Logarithms(t *testing.T) {
	var numbers []int64
	for n := range int64(100000) {
		numbers = append(numbers, n+1)
	}
	r := rand.New(rand.NewSource(10))
	for e := 17; e < 51; e++ {
		for by := int64(-2); by <= 2; by++ {
			numbers = append(numbers, int64(1)<<e+by)
		}
		for range 1000 {
			numbers = append(numbers, min(power(14), int64(1)<<e+r.Int63n(1<<e)))
		}
	}
	for hour := range 15 {
		numbers = append(numbers, power(hour))
	}
	slices.Sort(numbers)
	last := int64(0)
	for _, n := range numbers {
		log, code := impl.LogOf(n)
		if log < last || code != impl.OK {
			t.Fatalf("%d has %d, %d, behind %d", n, log, code, last)
		}
		last = log
		// Twice as many parts have one more, which is 16 sixteenths.
		if n <= 1<<29 {
			if twice, _ := impl.LogOf(2 * n); twice != log+16 {
				t.Fatalf("%d has %d, but twice as many %d", n, log, twice)
			}
		}
	}
	same(t, "the greatest", "803", last)
}

// TestPromise10Maps holds the order of maps, and which of two is better,
// against their scores.
func TestPromise10Maps(t *testing.T) {
	r := rand.New(rand.NewSource(11))
	scored, unscored := 0, 0
	for _, c := range manyMaps() {
		maps := []impl.Sea{c.a, c.b, otherChances(r, c.a, 1), otherChances(r, c.b, 2), c.a}
		r.Shuffle(len(maps), func(i, j int) { maps[i], maps[j] = maps[j], maps[i] })
		order, code := impl.RankMaps(maps, c.cell, c.begin, c.finds)
		sorted := slices.Sorted(slices.Values(order))
		if code != impl.OK || !slices.Equal(sorted, []int64{0, 1, 2, 3, 4}) {
			t.Fatalf("%v: %v %d", c, order, code)
		}
		for i := 1; i < len(order); i++ {
			first, second := maps[order[i-1]], maps[order[i]]
			more, one := impl.ScoreOf(first, c.cell, c.begin, c.finds)
			less, two := impl.ScoreOf(second, c.cell, c.begin, c.finds)
			better, by, code := impl.BetterMap(first, second, c.cell, c.begin, c.finds)
			back, off, _ := impl.BetterMap(second, first, c.cell, c.begin, c.finds)
			if better != -back || by != -off {
				t.Fatalf("%v: %d by %d, but back %d by %d", c, better, by, back, off)
			}
			switch {
			case one != impl.OK:
				unscored++
				same(t, "none with either", "6 0 0 6 true", two, better, by, code, order[i-1] < order[i])
			case two != impl.OK:
				unscored++
				same(t, "none with the second", "6 1 0 0", two, better, by, code)
			case more == less:
				same(t, "equal", "0 0 0 true", better, by, code, order[i-1] < order[i])
			default:
				scored++
				same(t, "greater", "1 0 true true", better, code, by == more-less, by > 0)
			}
		}
	}
	if scored < 500 || unscored < 500 {
		t.Errorf("only %d pairs with scores, %d without", scored, unscored)
	}
}

// TestPromise11 repairs maps as often as is asked for: each repair has a
// greater score than what was before it, and behind the last one of all none
// is better.
func TestPromise11(t *testing.T) {
	repaired, rescued := 0, 0
	for _, c := range someMaps() {
		before, had := impl.ScoreOf(c.a, c.cell, c.begin, c.finds)
		all, whole, code := impl.RepairMap(c.a, c.b, c.cell, c.begin, c.finds, impl.MaxRepairs)
		if code != impl.OK || !impl.ValidSea(all) {
			t.Fatalf("%v: %d", c, code)
		}
		if _, _, code := impl.BestRepair(all, c.b, c.cell, c.begin, c.finds); len(whole) < impl.MaxRepairs && code != impl.ErrNotFound {
			t.Fatalf("%v: %v, but one more is better", c, whole)
		}
		s := c.a
		for i, spot := range whole {
			next, score, code := impl.BestRepair(s, c.b, c.cell, c.begin, c.finds)
			s, _ = impl.RepairAt(s, c.b, spot)
			now, has := impl.ScoreOf(s, c.cell, c.begin, c.finds)
			if code != impl.OK || next != spot || has != impl.OK || now != score || had == impl.OK && now <= before {
				t.Fatalf("%v: %v has %d at %d, behind %d", c, whole, now, i, before)
			}
			if had != impl.OK {
				rescued++
			}
			part, made, _ := impl.RepairMap(c.a, c.b, c.cell, c.begin, c.finds, int64(i+1))
			if part != s || !impl.SameSpots(made, whole[:i+1]) {
				t.Fatalf("%v: %v is not the beginning of %v", c, made, whole)
			}
			before, had = now, has
			repaired++
		}
		checkRepairs(t, c, all, s, whole)
	}
	if repaired < 300 || rescued < 30 {
		t.Errorf("only %d repairs, of which %d make finds possible", repaired, rescued)
	}
}

// checkRepairs looks at a sea that is repaired as a whole.
func checkRepairs(t *testing.T, c mapCase, all, s impl.Sea, whole []impl.Spot) {
	t.Helper()
	better, _, code := impl.BetterMap(all, c.a, c.cell, c.begin, c.finds)
	if all != s || code == impl.OK && better < 0 || (len(whole) > 0) != (better > 0) {
		t.Fatalf("%v: %v is not what is repaired, or no better: %d", c, whole, better)
	}
	differ, _ := impl.DifferingSpots(c.a, c.b)
	left, _ := impl.DifferingSpots(all, c.b)
	both := slices.Concat(left, whole)
	slices.SortFunc(both, func(x, y impl.Spot) int { return int(x.Tide)*64 + int(x.Cell) - int(y.Tide)*64 - int(y.Cell) })
	if !impl.SameSpots(both, differ) {
		t.Fatalf("%v: %v are repaired, and %v left, of %v", c, whole, left, differ)
	}
	distance, _ := impl.MapDistance(all, all, c.cell, c.begin, 14)
	same(t, "from itself", "0", distance)
}
