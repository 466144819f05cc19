package tests

import (
	"slices"
	"testing"

	"loop.example/g01300/impl"
)

// planCall is what the functions of plans take.
type planCall struct {
	s       impl.Sea
	p       impl.Plan
	cell    int64
	cells   uint64
	bottles int64
}

// goodPlan returns a call that all functions answer: the plan covers its cells,
// of which its first release is not needed.
func goodPlan(t *testing.T) planCall {
	t.Helper()
	return planCall{eastward(t), examplePlan(), 0, bits(2), 3}
}

// codesOfPlans returns the codes of the functions with a plan, in the order of
// the document, and fails if there is a result beside one.
func codesOfPlans(t *testing.T, c planCall) []any {
	t.Helper()
	spread, c1 := impl.SpreadOfPlan(c.s, c.p)
	found, c2 := impl.FoundOn(c.s, c.p, c.cells)
	reached, c3 := impl.ReachedBy(c.s, c.p, c.cells)
	covers, c4 := impl.PlanCovers(c.s, c.p, c.cells)
	poorest, least, c5 := impl.PoorestBeach(c.s, c.p, c.cells)
	hour, share, c6 := impl.BestHour(c.s, c.p, c.cell, c.cells)
	cell, best, most, c7 := impl.BestCell(c.s, c.p, c.cells)
	more, c8 := impl.GiveOut(c.s, c.p, c.cells, c.bottles)
	needless, c9 := impl.NeedlessRelease(c.s, c.p, c.cells)
	merged, c10 := impl.MergeReleases(c.s, c.p)
	checkZero(t, "SpreadOfPlan", []any{spread, c1})
	checkZero(t, "FoundOn", []any{found, c2})
	checkZero(t, "ReachedBy", []any{reached, c3})
	checkZero(t, "PlanCovers", []any{covers, c4})
	checkZero(t, "PoorestBeach", []any{poorest, least, c5})
	checkZero(t, "BestHour", []any{hour, share, c6})
	checkZero(t, "BestCell", []any{cell, best, most, c7})
	checkZero(t, "GiveOut", []any{more, c8})
	checkZero(t, "NeedlessRelease", []any{needless, c9})
	checkZero(t, "MergeReleases", []any{merged, c10})
	return []any{c1, c2, c3, c4, c5, c6, c7, c8, c9, c10}
}

// codesOfFew returns the codes of the functions without a plan.
func codesOfFew(t *testing.T, s impl.Sea, begin, hours int64, cells uint64) []any {
	t.Helper()
	from, c1 := impl.CellsThatReach(s, begin, hours, cells)
	few, c2 := impl.FewestCells(s, begin, hours, cells)
	plan, c3 := impl.PlanFewest(s, begin, hours, cells)
	checkZero(t, "CellsThatReach", []any{from, c1})
	checkZero(t, "FewestCells", []any{few, c2})
	checkZero(t, "PlanFewest", []any{plan, c3})
	return []any{c1, c2, c3}
}

func TestPlansOfGoodCalls(t *testing.T) {
	c := goodPlan(t)
	same(t, "good", "0 0 0 0 0 0 0 0 0 0", codesOfPlans(t, c)...)
	same(t, "good", "0 0 0", codesOfFew(t, c.s, 1, 8, c.cells)...)
}

// TestPlansOfBadSeas has seas that are not valid, with good arguments and with
// bad ones, and plans that are not valid for a good sea.
func TestPlansOfBadSeas(t *testing.T) {
	good := goodPlan(t)
	for name, s := range badSeas(t) {
		for _, c := range []planCall{{s, good.p, 0, 4, 3}, {s, impl.Plan{Hours: 1}, 0, 0, 0}, {s, impl.Plan{}, 99, 1 << 63, -1}, {s, good.p, 2, 0, 1001}} {
			same(t, name, "1 1 1 1 1 1 1 1 1 1", codesOfPlans(t, c)...)
		}
		for _, n := range [][2]int64{{0, 2}, {2, 2}, {0, 0}, {-1, 9}} {
			for _, cells := range append(badCellBits, 0, 4) {
				same(t, name, "1 1 1", codesOfFew(t, s, n[0], n[1], cells)...)
			}
		}
	}
	for name, p := range badPlans() {
		for _, c := range []planCall{{good.s, p, 0, 4, 3}, {good.s, p, 2, 0, 0}, {good.s, p, 99, 1 << 63, -1}, {good.s, p, 0, 4, 1000}} {
			same(t, name, "1 1 1 1 1 1 1 1 1 1", codesOfPlans(t, c)...)
		}
	}
	// The plan is one for another sea.
	calm := still(t, 3, 2, bits(1))
	same(t, "another sea", "1 1 1 1 1 1 1 1 1 1", codesOfPlans(t, planCall{calm, good.p, 0, 4, 3})...)
}

// TestPlanRanges has one argument out of range, with others that are good, and
// with others for which a later code would be told.
func TestPlanRanges(t *testing.T) {
	good := goodPlan(t)
	full := planOf(0, 2, [3]int{0, 0, 200})
	for _, p := range []impl.Plan{good.p, full, {Hours: 2}} {
		c := good
		c.p = p
		for _, cells := range badCellBits {
			for _, cell := range []int64{0, 2} {
				c.cell, c.cells, c.bottles = cell, cells, 900
				same(t, "no cells", "2 2 2 2 2 2 2 2", codesOfPlans(t, c)[1:9]...)
			}
		}
		for _, cells := range []uint64{0, 4, 64} {
			for _, cell := range append(badCells, impl.Lost) {
				_, _, code := impl.BestHour(c.s, p, cell, cells)
				same(t, "no cell", "2", code)
			}
			for _, bottles := range append(badBottles, 1001) {
				plan, code := impl.GiveOut(c.s, p, cells, bottles)
				if bottles == 0 {
					same(t, "no bottles", "true 0", impl.SamePlan(plan, p), code)
					continue
				}
				same(t, "bottles", "{0 0 []} 2", plan, code)
			}
		}
	}
}

// TestFewRanges has tides, hours and cells out of range, in a sea with few
// cells of water, and in one with too many.
func TestFewRanges(t *testing.T) {
	for _, s := range []impl.Sea{eastward(t), tidal(t)} {
		for _, cells := range []uint64{0, 4, 64} {
			for _, begin := range badTides {
				same(t, "no tide", "2 2 2", codesOfFew(t, s, begin, 2, cells)...)
			}
			for _, hours := range badSpans {
				same(t, "hours", "2 2 2", codesOfFew(t, s, 0, hours, cells)...)
			}
		}
	}
	for _, cells := range badCellBits {
		same(t, "no cells", "2 2 2", codesOfFew(t, eastward(t), 0, 2, cells)...)
	}
	same(t, "no cells of many", "2 2 2", codesOfFew(t, tidal(t), 0, 2, bits(36))...)
}

// TestPlanStates has each of the codes behind the range.
func TestPlanStates(t *testing.T) {
	c := goodPlan(t)
	c.cells = 0
	same(t, "no cells", "0 0 0 0 4 0 0 0 0 0", codesOfPlans(t, c)...)
	c.cells = bits(6)
	same(t, "not covered", "0 0 0 0 0 0 0 0 4 0", codesOfPlans(t, c)...)
	c.cell = 2
	same(t, "land", "0 0 0 0 0 4 0 0 4 0", codesOfPlans(t, c)...)
	c.cell, c.p = 0, impl.Plan{Begin: 1, Hours: 8}
	same(t, "no releases", "6 0 0 0 6 0 0 6 4 0", codesOfPlans(t, c)...)
	c.bottles = 0
	same(t, "no releases, and no bottles", "6 0 0 0 6 0 0 0 4 0", codesOfPlans(t, c)...)
	c.cells = 0
	same(t, "nothing at all", "6 0 0 0 4 0 0 0 6 0", codesOfPlans(t, c)...)
	dry := still(t, 2, 1, bits(0, 1))
	same(t, "no water", "6 0 0 0 6 4 6 0 4 0", codesOfPlans(t, planCall{dry, impl.Plan{Hours: 1}, 1, 1, 0})...)
	same(t, "no water", "0 6 6", codesOfFew(t, dry, 0, 1, 1)...)
	same(t, "no water, and no cells", "0 0 0", codesOfFew(t, dry, 0, 1, 0)...)
}

// TestGiveOutErrors has limits reached exactly, and one more.
func TestGiveOutErrors(t *testing.T) {
	s := eastward(t)
	one := planOf(0, 1, [3]int{0, 0, 1})
	full := planOf(0, 1, [3]int{0, 0, 200}, [3]int{1, 0, 200})
	most := impl.Plan{Hours: 1, Releases: slices.Repeat(full.Releases[:1], 5)}
	many := impl.Plan{Hours: 1, Releases: slices.Repeat([]impl.Release{{Cell: 0, Bottles: 1}}, 12)}
	for _, x := range []struct {
		name    string
		p       impl.Plan
		bottles int64
		want    int64
	}{
		{"199 more", one, 199, impl.OK},
		{"200 more", one, 200, impl.ErrNotFound},
		{"999 more", one, 999, impl.ErrNotFound},
		{"1000 more", one, 1000, impl.ErrLimit},
		{"1001 more", one, 1001, impl.ErrRange},
		{"full, none more", full, 0, impl.OK},
		{"full, 1 more", full, 1, impl.ErrNotFound},
		{"full, 600 more", full, 600, impl.ErrNotFound},
		{"full, 601 more", full, 601, impl.ErrLimit},
		{"most, none more", most, 0, impl.OK},
		{"most, 1 more", most, 1, impl.ErrLimit},
		{"many, 988 more", many, 988, impl.OK},
		{"many, 989 more", many, 989, impl.ErrLimit},
		{"none, none more", impl.Plan{Hours: 1}, 0, impl.OK},
		{"none, 1 more", impl.Plan{Hours: 1}, 1, impl.ErrNotFound},
		{"none, 1000 more", impl.Plan{Hours: 1}, 1000, impl.ErrNotFound},
	} {
		for _, cells := range []uint64{0, 4} {
			p, code := impl.GiveOut(s, x.p, cells, x.bottles)
			checkZero(t, x.name, []any{p, code})
			sum := bottlesOf(x.p) + x.bottles
			if code != x.want || code == impl.OK && (bottlesOf(p) != sum || !impl.ValidPlan(s, p)) {
				t.Errorf("%s: %v %d, want %d", x.name, p, code, x.want)
			}
		}
	}
}

// TestFewBudget has 12 and 13 cells of water.
func TestFewBudget(t *testing.T) {
	twelve, thirteen := still(t, 6, 3, bits(12, 13, 14, 15, 16, 17)), still(t, 6, 3, bits(12, 13, 14, 15, 16))
	same(t, "12 cells", "0 0 0", codesOfFew(t, twelve, 0, 1, bits(0, 5))...)
	same(t, "12 cells, and one that is not reached", "0 6 6", codesOfFew(t, twelve, 0, 1, bits(0, 12))...)
	for _, cells := range []uint64{0, bits(0), bits(12), allBits(thirteen)} {
		same(t, "13 cells", "0 7 7", codesOfFew(t, thirteen, 1, 8, cells)...)
		same(t, "36 cells", "0 7 7", codesOfFew(t, tidal(t), 1, 8, cells)...)
	}
}

// TestMergeLimit has 200 and 201 bottles in one release, and bottles that are
// too many in several ones.
func TestMergeLimit(t *testing.T) {
	s := eastward(t)
	for _, x := range []struct {
		name string
		p    impl.Plan
		want int64
	}{
		{"200", planOf(0, 2, [3]int{0, 1, 199}, [3]int{1, 1, 1}, [3]int{0, 1, 1}), impl.OK},
		{"201", planOf(0, 2, [3]int{0, 1, 199}, [3]int{1, 1, 1}, [3]int{0, 1, 2}), impl.ErrLimit},
		{"201 at two hours", planOf(0, 2, [3]int{0, 1, 199}, [3]int{0, 0, 2}), impl.OK},
		{"201 in two cells", planOf(0, 2, [3]int{0, 1, 199}, [3]int{6, 1, 2}), impl.OK},
		{"1000", impl.Plan{Hours: 1, Releases: slices.Repeat([]impl.Release{{Cell: 8, Bottles: 200}}, 5)}, impl.ErrLimit},
		{"201 at the end", planOf(0, 2, [3]int{0, 0, 1}, [3]int{7, 1, 101}, [3]int{7, 1, 100}), impl.ErrLimit},
	} {
		p, code := impl.MergeReleases(s, x.p)
		checkZero(t, x.name, []any{p, code})
		same(t, x.name, "true", code == x.want)
	}
}
