package tests

import (
	"math/big"
	"math/rand"
	"slices"
	"testing"

	"loop.example/g01300/impl"
)

func TestPlanConstants(t *testing.T) {
	same(t, "constants", "12 8 200", impl.MaxReleases, impl.MaxPlanHours, impl.MaxGiven)
}

// TestPlanExample has the example of chapter 7.
func TestPlanExample(t *testing.T) {
	s, p := eastward(t), examplePlan()
	x, c1 := impl.SpreadOfPlan(s, p)
	found, c2 := impl.FoundOn(s, p, bits(2))
	reached, c3 := impl.ReachedBy(s, p, bits(0, 1, 2, 6, 7, 8))
	all, c4 := impl.PlanCovers(s, p, bits(0, 1, 2))
	more, c5 := impl.PlanCovers(s, p, bits(0, 1, 2, 6))
	poorest, least, c6 := impl.PoorestBeach(s, p, bits(1, 2))
	same(t, "spread", "0 2 2 49 154 85 0 0", x.Begin, x.Hours, x.Bottles, x.At[0], x.At[1], x.At[2], x.Out, c1)
	same(t, "found", "{85 288} 0 7 0 true 0 false 0 2 {85 288} 0", found, c2, reached, c3, all, c4, more, c5, poorest, least, c6)
	cell, hour, share, c7 := impl.BestCell(s, p, bits(2))
	of, worth, c8 := impl.BestHour(s, p, 0, bits(2))
	few, c9 := impl.FewestCells(s, 0, 2, bits(2, 7))
	plan, c10 := impl.PlanFewest(s, 0, 2, bits(2, 7))
	from, c11 := impl.CellsThatReach(s, 0, 2, bits(2, 7))
	same(t, "better", "1 0 {95 144} 0 0 {25 144} 0 65 0 {0 2 [{0 0 1} {6 0 1}]} 0 195 0", cell, hour, share, c7, of, worth, c8, few, c9, plan, c10, from, c11)
}

func TestValidPlan(t *testing.T) {
	for _, c := range manyPlans() {
		if !impl.ValidPlan(c.s, c.p) {
			t.Fatalf("%v is valid for %v", c.p, c.s)
		}
	}
	s := eastward(t)
	for name, p := range badPlans() {
		if impl.ValidPlan(s, p) {
			t.Errorf("%s: is not valid", name)
		}
	}
	for name, bad := range badSeas(t) {
		if impl.ValidPlan(bad, examplePlan()) || impl.ValidPlan(bad, impl.Plan{Hours: 1}) || impl.ValidPlan(bad, planOf(0, 1, [3]int{0, 0, 1})) {
			t.Errorf("%s: no plan is valid", name)
		}
	}
}

// TestPlanLimits has each limit reached exactly.
func TestPlanLimits(t *testing.T) {
	s := eastward(t)
	for name, p := range map[string]impl.Plan{
		"no releases":    {Hours: 1},
		"8 hours":        planOf(1, 8, [3]int{8, 7, 1}),
		"12 releases":    {Hours: 1, Releases: slices.Repeat([]impl.Release{{Cell: 1, Bottles: 1}}, 12)},
		"200 bottles":    planOf(0, 1, [3]int{6, 0, 200}),
		"1000 bottles":   {Begin: 1, Hours: 8, Releases: slices.Repeat([]impl.Release{{Cell: 7, Hour: 3, Bottles: 200}}, 5)},
		"12 of 83 or so": {Hours: 2, Releases: append(slices.Repeat([]impl.Release{{Cell: 7, Hour: 1, Bottles: 83}}, 11), impl.Release{Cell: 0, Bottles: 87})},
	} {
		if !impl.ValidPlan(s, p) {
			t.Errorf("%s: is valid", name)
		}
	}
	last := still(t, 6, 6, 0)
	same(t, "the last cell", "true false", impl.ValidPlan(last, planOf(0, 1, [3]int{35, 0, 1})), impl.ValidPlan(last, planOf(0, 1, [3]int{36, 0, 1})))
}

func TestSamePlan(t *testing.T) {
	p := examplePlan()
	same(t, "same", "true true true", impl.SamePlan(p, examplePlan()), impl.SamePlan(impl.Plan{}, impl.Plan{Releases: []impl.Release{}}), impl.SamePlan(impl.Plan{Releases: []impl.Release{}}, impl.Plan{}))
	for name, other := range map[string]impl.Plan{
		"begin":    planOf(1, 2, [3]int{0, 0, 1}, [3]int{1, 1, 1}),
		"hours":    planOf(0, 3, [3]int{0, 0, 1}, [3]int{1, 1, 1}),
		"cell":     planOf(0, 2, [3]int{0, 0, 1}, [3]int{6, 1, 1}),
		"hour":     planOf(0, 2, [3]int{0, 1, 1}, [3]int{1, 1, 1}),
		"bottles":  planOf(0, 2, [3]int{0, 0, 1}, [3]int{1, 1, 2}),
		"order":    planOf(0, 2, [3]int{1, 1, 1}, [3]int{0, 0, 1}),
		"less":     planOf(0, 2, [3]int{0, 0, 1}),
		"more":     planOf(0, 2, [3]int{0, 0, 1}, [3]int{1, 1, 1}, [3]int{1, 1, 1}),
		"none":     planOf(0, 2),
		"the zero": {},
	} {
		same(t, name, "false false true", impl.SamePlan(p, other), impl.SamePlan(other, p), impl.SamePlan(other, other))
	}
	for name, bad := range badPlans() {
		again := impl.Plan{Begin: bad.Begin, Hours: bad.Hours, Releases: slices.Clone(bad.Releases)}
		if !impl.SamePlan(bad, again) || impl.SamePlan(bad, p) {
			t.Errorf("%s: need not be valid", name)
		}
	}
}

// TestSpreadOfPlan holds spreads against those of each release alone.
func TestSpreadOfPlan(t *testing.T) {
	late := 0
	for _, c := range manyPlans() {
		x, code := impl.SpreadOfPlan(c.s, c.p)
		if len(c.p.Releases) == 0 {
			same(t, "none", "true 6", x == impl.Spread{}, code)
			continue
		}
		want := endByHand(c.s, c.p)
		if x != want || code != impl.OK || !impl.ValidSpread(c.s, x) {
			t.Fatalf("%v, %v: %v %d, want %v", c.s, c.p, x, code, want)
		}
		for _, one := range c.p.Releases {
			if one.Hour%2 == 1 {
				late++
			}
		}
	}
	if late < 100 {
		t.Errorf("only %d releases at an odd hour", late)
	}
}

// TestHourOfRelease has releases at each hour of a plan: each bottle begins
// with the tide of its own hour, and drifts for the hours that are left.
func TestHourOfRelease(t *testing.T) {
	s := tidal(t)
	for _, one := range []struct {
		p    impl.Plan
		want [4]int64
	}{
		// In the cells 14, 15, 8 and 20: by flood to the east, by ebb both ways.
		{planOf(0, 1, [3]int{14, 0, 1}), [4]int64{3, 9, 0, 0}},
		{planOf(1, 1, [3]int{14, 0, 1}), [4]int64{2, 0, 5, 5}},
		{planOf(0, 2, [3]int{14, 1, 1}), [4]int64{24, 0, 60, 60}},
		{planOf(1, 2, [3]int{14, 1, 1}), [4]int64{36, 108, 0, 0}},
		{planOf(0, 2, [3]int{14, 0, 1}), [4]int64{6, 18, 15, 15}},
		{planOf(0, 2, [3]int{14, 0, 2}, [3]int{14, 1, 3}), [4]int64{84, 36, 210, 210}},
		{planOf(0, 3, [3]int{14, 2, 5}), [4]int64{5 * 432, 5 * 1296, 0, 0}},
	} {
		x, code := impl.SpreadOfPlan(s, one.p)
		got := [4]int64{x.At[14], x.At[15], x.At[8], x.At[20]}
		if got != one.want || code != impl.OK {
			t.Errorf("%v: %v %d, want %v", one.p, got, code, one.want)
		}
	}
	// Of 8 hours the last one alone: an ebb, if the first one is a flood.
	x, _ := impl.SpreadOfPlan(s, planOf(0, 8, [3]int{14, 7, 200}))
	same(t, "the last hour", "0 8 200 0", x.Begin, x.Hours, x.Bottles, x.Out)
	same(t, "the last hour", "true", x.At == [36]int64{8: 1000 * power(7), 14: 400 * power(7), 20: 1000 * power(7)})
}

// TestSpreadAtTheBeginning has releases that are all at the hour 0: they drift
// as spreads that are added do.
func TestSpreadAtTheBeginning(t *testing.T) {
	for _, c := range manyPlans() {
		if len(c.p.Releases) == 0 {
			continue
		}
		p := impl.Plan{Begin: c.p.Begin, Hours: c.p.Hours}
		var sum impl.Spread
		for i, one := range c.p.Releases {
			one.Hour = 0
			p.Releases = append(p.Releases, one)
			x := at(t, c.s, int64(one.Cell), int64(one.Bottles), int64(p.Begin))
			if i == 0 {
				sum = x
			} else {
				sum = plus(t, c.s, sum, x)
			}
		}
		x, code := impl.SpreadOfPlan(c.s, p)
		if x != drifted(t, c.s, sum, int64(p.Hours)) || code != impl.OK {
			t.Fatalf("%v, %v: %v %d", c.s, p, x, code)
		}
	}
}

// TestFoundAndReached holds what a plan finds and reaches against its spread.
func TestFoundAndReached(t *testing.T) {
	r := rand.New(rand.NewSource(71))
	covered := 0
	for _, c := range manyPlans() {
		end := endByHand(c.s, c.p)
		all := max(1, end.Bottles*power(int(c.p.Hours)))
		for _, cells := range []uint64{0, c.s.Land, allBits(c.s), someCells(r, c.s), someCells(r, c.s)} {
			var reach uint64
			for cell, much := range end.At {
				if cells&bits(cell) != 0 && much > 0 {
					reach |= bits(cell)
				}
			}
			share, one := impl.FoundOn(c.s, c.p, cells)
			reached, two := impl.ReachedBy(c.s, c.p, cells)
			covers, three := impl.PlanCovers(c.s, c.p, cells)
			same(t, "codes", "0 0 0", one, two, three)
			if !isRat(t, share, big.NewRat(inCells(end, cells), all)) || reached != reach || covers != (reach == cells) {
				t.Fatalf("%v, %v, %b: %v, %b, %v, want %d of %d, %b", c.s, c.p, cells, share, reached, covers, inCells(end, cells), all, reach)
			}
			if covers && cells != 0 {
				covered++
			}
		}
	}
	if covered < 100 {
		t.Errorf("only %d plans cover some cells", covered)
	}
}

// TestWithoutReleases has plans that release nothing: only what asks for their
// spread finds none.
func TestWithoutReleases(t *testing.T) {
	s := eastward(t)
	for _, p := range []impl.Plan{{Hours: 1}, {Begin: 1, Hours: 8, Releases: []impl.Release{}}} {
		x, c1 := impl.SpreadOfPlan(s, p)
		share, c2 := impl.FoundOn(s, p, allBits(s))
		none, c3 := impl.FoundOn(s, p, 0)
		reached, c4 := impl.ReachedBy(s, p, allBits(s))
		covers, c5 := impl.PlanCovers(s, p, bits(0))
		nothing, c6 := impl.PlanCovers(s, p, 0)
		same(t, "nothing", "true 6 {0 1} 0 {0 1} 0 0 0 false 0 true 0", x == impl.Spread{}, c1, share, c2, none, c3, reached, c4, covers, c5, nothing, c6)
		cell, hour, best, c7 := impl.BestCell(s, p, bits(8))
		last, again, c8 := impl.BestHour(s, p, 8, bits(8))
		same(t, "best", "8 true {7 12} 0 true true 0", cell, hour == int64(p.Hours-1), best, c7, last == hour, again == best, c8)
	}
}

// TestPoorestBeach looks at all cells for the least of several.
func TestPoorestBeach(t *testing.T) {
	r := rand.New(rand.NewSource(72))
	for _, c := range manyPlans() {
		end := endByHand(c.s, c.p)
		for _, cells := range []uint64{c.s.Land, allBits(c.s), someCells(r, c.s), someCells(r, c.s)} {
			cell, share, code := impl.PoorestBeach(c.s, c.p, cells)
			if cells == 0 || len(c.p.Releases) == 0 {
				same(t, "none", map[bool]string{true: "0 {0 0} 4", false: "0 {0 0} 6"}[cells == 0], cell, share, code)
				continue
			}
			want := int64(-1)
			for number, much := range end.At {
				if cells&bits(number) != 0 && (want < 0 || much < end.At[want]) {
					want = int64(number)
				}
			}
			if cell != want || code != impl.OK || !isRat(t, share, big.NewRat(end.At[want], end.Bottles*power(int(c.p.Hours)))) {
				t.Fatalf("%v, %v, %b: %d, %v, %d, want %d", c.s, c.p, cells, cell, share, code, want)
			}
		}
	}
	s := still(t, 3, 2, bits(2))
	cell, share, code := impl.PoorestBeach(s, planOf(0, 4, [3]int{0, 0, 3}, [3]int{1, 2, 3}, [3]int{8, 3, 3}), bits(0, 1, 8))
	same(t, "all equal", "0 {1 3} 0", cell, share, code)
	cell, share, code = impl.PoorestBeach(s, planOf(0, 4, [3]int{0, 0, 3}, [3]int{1, 2, 1}, [3]int{8, 3, 1}), bits(0, 1, 8))
	same(t, "two of them", "1 {1 5} 0", cell, share, code)
}
