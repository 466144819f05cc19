package tests

import (
	"math"
	"math/big"
	mathbits "math/bits"
	"math/rand"
	"reflect"
	"slices"
	"testing"

	"loop.example/g01300/impl"
)

// plansToTry returns plans of all kinds, valid for a sea or not.
func plansToTry(s impl.Sea) []impl.Plan {
	list := []impl.Plan{{}, {Hours: 1}, {Begin: 1, Hours: 8}, {Begin: -1, Hours: -1}, {Hours: 9}, planOf(0, 2, [3]int{2, 0, 1}), planOf(0, 2, [3]int{-128, 127, 1}), planOf(1, 1, [3]int{0, 0, 201}), planOf(1, 4, [3]int{35, 3, 200}, [3]int{35, 3, 1})}
	list = append(list, impl.Plan{Hours: 1, Releases: make([]impl.Release, 13)}, impl.Plan{Hours: 1, Releases: make([]impl.Release, 100000)})
	if !impl.ValidSea(s) {
		return append(list, examplePlan())
	}
	if water, _ := waterAndLand(s); len(water) > 0 {
		r := rand.New(rand.NewSource(10))
		for range 6 {
			list = append(list, randomPlan(r, s))
		}
	}
	return list
}

// callsOfPlans returns calls of all functions of chapter 7.
func callsOfPlans(s impl.Sea) []call {
	var list []call
	add := func(name string, run func() []any) { list = append(list, call{name, run}) }
	plans := plansToTry(s)
	for i, p := range plans {
		other := plans[(i+1)%len(plans)]
		text := impl.PlanText(s, p) + []string{"", "\n", "0 0 1\n"}[i%3]
		add("ValidPlan", func() []any { return []any{impl.ValidPlan(s, p)} })
		add("SamePlan", func() []any { return []any{impl.SamePlan(p, other)} })
		add("SpreadOfPlan", func() []any { x, c := impl.SpreadOfPlan(s, p); return []any{x, c} })
		add("MergeReleases", func() []any { x, c := impl.MergeReleases(s, p); return []any{x, c} })
		add("PlanText", func() []any { return []any{impl.PlanText(s, p)} })
		add("ReadPlan", func() []any { x, c := impl.ReadPlan(s, text); return []any{x, c} })
		for _, n := range hardNumbers {
			add("BestHour", func() []any { x, y, c := impl.BestHour(s, p, n, s.Land); return []any{x, y, c} })
			add("GiveOut", func() []any { x, c := impl.GiveOut(s, p, s.Land, n); return []any{x, c} })
		}
		for _, cells := range []uint64{0, 1, s.Land, bits(35), bits(36), bits(63), math.MaxUint64} {
			add("FoundOn", func() []any { x, c := impl.FoundOn(s, p, cells); return []any{x, c} })
			add("ReachedBy", func() []any { x, c := impl.ReachedBy(s, p, cells); return []any{x, c} })
			add("PlanCovers", func() []any { x, c := impl.PlanCovers(s, p, cells); return []any{x, c} })
			add("PoorestBeach", func() []any { x, y, c := impl.PoorestBeach(s, p, cells); return []any{x, y, c} })
			add("BestHour", func() []any { x, y, c := impl.BestHour(s, p, 0, cells); return []any{x, y, c} })
			add("BestCell", func() []any { x, y, z, c := impl.BestCell(s, p, cells); return []any{x, y, z, c} })
			add("GiveOut", func() []any { x, c := impl.GiveOut(s, p, cells, 30); return []any{x, c} })
			add("NeedlessRelease", func() []any { x, c := impl.NeedlessRelease(s, p, cells); return []any{x, c} })
		}
	}
	return append(list, callsOfFew(s)...)
}

// callsOfFew returns calls of the functions without a plan, with any numbers
// in the place of one argument.
func callsOfFew(s impl.Sea) []call {
	var list []call
	add := func(begin, hours int64, cells uint64) {
		list = append(list,
			call{"CellsThatReach", func() []any { x, c := impl.CellsThatReach(s, begin, hours, cells); return []any{x, c} }},
			call{"FewestCells", func() []any { x, c := impl.FewestCells(s, begin, hours, cells); return []any{x, c} }},
			call{"PlanFewest", func() []any { x, c := impl.PlanFewest(s, begin, hours, cells); return []any{x, c} }})
	}
	for _, n := range hardNumbers {
		add(n, 2, s.Land)
		add(1, n, s.Land)
		add(0, 3, uint64(n))
	}
	return list
}

// TestPromise1Plans looks at releases behind all calls, at the unused capacity
// around them, and whether results share memory with them.
func TestPromise1Plans(t *testing.T) {
	guard := []impl.Release{{Cell: 77, Hour: 78, Bottles: 79}, {Cell: 87, Hour: 88, Bottles: 89}}
	for i, c := range manyPlans() {
		memory := slices.Concat(guard, c.p.Releases, guard, slices.Repeat(guard, 20))
		p := c.p
		p.Releases = memory[2 : 2+len(c.p.Releases)]
		before := slices.Clone(memory)
		run := func() []any {
			more, _ := impl.GiveOut(c.s, p, c.s.Land, int64(i%3))
			merged, _ := impl.MergeReleases(c.s, p)
			few, _ := impl.PlanFewest(c.s, int64(i%2), 2, c.s.Land)
			back, _ := impl.ReadPlan(c.s, impl.PlanText(c.s, p))
			results := []any{more, merged, few, back}
			for i, one := range results {
				x := one.(impl.Plan)
				results[i] = impl.Plan{Begin: x.Begin, Hours: x.Hours, Releases: x.Releases[:cap(x.Releases)]}
			}
			return results
		}
		for index := range p.Releases {
			// Without each release in turn, of which no other one is needless.
			impl.NeedlessRelease(c.s, p, reachByHand(c.s, p, p.Releases[index]))
		}
		impl.NeedlessRelease(c.s, p, 0)
		impl.SpreadOfPlan(c.s, p)
		impl.BestCell(c.s, p, c.s.Land)
		impl.SamePlan(p, p)
		first, second := run(), run()
		want := kept(second)
		spoil(first)
		if !reflect.DeepEqual(kept(second), want) || !reflect.DeepEqual(kept(run()), want) {
			t.Fatalf("%v, %v: %v, then %v", c.s, p, want, run())
		}
		if !slices.Equal(memory, before) {
			t.Fatalf("%v has been changed: %v", before, memory)
		}
	}
}

// TestPromise14Found sums what a plan finds: all cells and what is lost make 1,
// so no cells have more, and more cells never have less.
func TestPromise14Found(t *testing.T) {
	r := rand.New(rand.NewSource(14))
	one := big.NewRat(1, 1)
	for _, c := range manyPlans() {
		x, code := impl.SpreadOfPlan(c.s, c.p)
		lost, _ := impl.LostShare(c.s, x)
		if code != impl.OK {
			lost = impl.Share{P: 1, Q: 1}
		}
		sum := fractionOf(t, lost)
		for _, cell := range cellsOf(c.s) {
			share, code := impl.FoundOn(c.s, c.p, bits(int(cell)))
			same(t, "found", "0", code)
			sum.Add(sum, fractionOf(t, share))
		}
		if sum.Cmp(one) != 0 {
			t.Fatalf("%v, %v: all sum to %v", c.s, c.p, sum)
		}
		for range 5 {
			few := someCells(r, c.s)
			more := few | someCells(r, c.s)
			a, _ := impl.FoundOn(c.s, c.p, few)
			b, _ := impl.FoundOn(c.s, c.p, more)
			if a.P < 0 || fractionOf(t, a).Cmp(fractionOf(t, b)) > 0 || fractionOf(t, b).Cmp(one) > 0 {
				t.Fatalf("%v, %v: %v on %b, but %v on %b", c.s, c.p, a, few, b, more)
			}
		}
		all, _ := impl.FoundOn(c.s, c.p, allBits(c.s))
		if fractionOf(t, all).Cmp(one) > 0 {
			t.Fatalf("%v, %v: finds %v", c.s, c.p, all)
		}
	}
}

// TestPromise14Best holds what a plan finds against its best cell: no plan of
// these hours finds more, and a plan of the best release alone finds as much.
func TestPromise14Best(t *testing.T) {
	r := rand.New(rand.NewSource(141))
	for _, c := range manyPlans() {
		cells := someCells(r, c.s)
		found, one := impl.FoundOn(c.s, c.p, cells)
		cell, hour, best, two := impl.BestCell(c.s, c.p, cells)
		alone := impl.Plan{Begin: c.p.Begin, Hours: c.p.Hours, Releases: []impl.Release{{Cell: int8(cell), Hour: int8(hour), Bottles: 7}}}
		again, three := impl.FoundOn(c.s, alone, cells)
		same(t, "codes", "0 0 0", one, two, three)
		if fractionOf(t, found).Cmp(fractionOf(t, best)) > 0 || again != best {
			t.Fatalf("%v, %v, %b: finds %v, and %v at best, of %v %v", c.s, c.p, cells, found, best, alone, again)
		}
	}
}

// TestPromise14Merged holds merged plans against those before: they find the
// same, and so do plans with their releases in another order.
func TestPromise14Merged(t *testing.T) {
	r := rand.New(rand.NewSource(142))
	merged := 0
	for _, c := range manyPlans() {
		if len(c.p.Releases) == 0 {
			continue
		}
		// Small plans with few cells and hours, so that many releases are equal.
		p := impl.Plan{Begin: c.p.Begin, Hours: c.p.Hours}
		for range 12 {
			one := c.p.Releases[r.Intn(min(3, len(c.p.Releases)))]
			one.Bottles = int16(1 + r.Intn(16))
			p.Releases = append(p.Releases, one)
		}
		less, one := impl.MergeReleases(c.s, p)
		again, two := impl.MergeReleases(c.s, less)
		before, three := impl.SpreadOfPlan(c.s, p)
		after, four := impl.SpreadOfPlan(c.s, less)
		same(t, "codes", "0 0 0 0", one, two, three, four)
		if before != after || bottlesOf(less) != bottlesOf(p) || len(less.Releases) > 3 || !impl.SamePlan(again, less) {
			t.Fatalf("%v, %v: merged it is %v, and has %v, not %v", c.s, p, less, after, before)
		}
		cells := someCells(r, c.s)
		was, _ := impl.FoundOn(c.s, p, cells)
		is, _ := impl.FoundOn(c.s, less, cells)
		r.Shuffle(len(p.Releases), func(i, j int) { p.Releases[i], p.Releases[j] = p.Releases[j], p.Releases[i] })
		mixed, _ := impl.FoundOn(c.s, p, cells)
		same(t, "found", "true true", was == is, was == mixed)
		merged++
	}
	if merged < 100 {
		t.Errorf("only %d plans", merged)
	}
}

// TestPromise15 has the fewest cells as a plan: it covers the cells, each of
// its releases is needed, and no plan with fewer cells covers them, nor one
// with as many and a lesser number of their bits.
func TestPromise15(t *testing.T) {
	found, missed := 0, 0
	for _, c := range fewCases() {
		few, code := impl.FewestCells(c.s, c.begin, c.hours, c.cells)
		water, _ := impl.WaterOf(c.s)
		all := planAt(c, water)
		covers, _ := impl.PlanCovers(c.s, all, c.cells)
		if code != impl.OK {
			missed++
			same(t, "none", "0 6 false", few, code, covers)
			continue
		}
		found++
		p, _ := impl.PlanFewest(c.s, c.begin, c.hours, c.cells)
		right, one := impl.PlanCovers(c.s, p, c.cells)
		_, two := impl.NeedlessRelease(c.s, p, c.cells)
		same(t, "covers", "true 0 6 true 0", right, one, two, impl.SamePlan(p, planAt(c, few)), few&^water)
		// What each cell reaches is told once, as there are many sets.
		reach := map[uint64]uint64{}
		for rest := water; rest != 0; rest &= rest - 1 {
			bit := rest & -rest
			reach[bit], _ = impl.ReachedBy(c.s, planAt(c, bit), c.cells)
		}
		for set := (few - 1) & water; few != 0; set = (set - 1) & water {
			checkNoFewer(t, c, few, set, reach)
			if set == 0 {
				break
			}
		}
		for set := water; set > few; set = (set - 1) & water {
			checkNoFewer(t, c, few, set, reach)
		}
	}
	if found < 100 || missed < 50 {
		t.Errorf("only %d found, and %d missed", found, missed)
	}
}

// checkNoFewer fails if a set covers the cells and comes before the fewest.
func checkNoFewer(t *testing.T, c fewCase, few, set uint64, reach map[uint64]uint64) {
	t.Helper()
	size, least := mathbits.OnesCount64(set), mathbits.OnesCount64(few)
	if size > least || size == least && set > few {
		return
	}
	var reached uint64
	for rest := set; rest != 0; rest &= rest - 1 {
		reached |= reach[rest&-rest]
	}
	if reached == c.cells {
		t.Fatalf("%v: %b is told, but %b reaches all, too", c, few, set)
	}
}

// planAt returns the plan with a bottle in each of some cells at the beginning.
func planAt(c fewCase, cells uint64) impl.Plan {
	p := impl.Plan{Begin: int8(c.begin), Hours: int8(c.hours)}
	for cell := range int8(36) {
		if cells&bits(int(cell)) != 0 {
			p.Releases = append(p.Releases, impl.Release{Cell: cell, Bottles: 1})
		}
	}
	return p
}

// TestPromise15Sources holds the cells that reach some against plans: what is
// among them, and nothing else, reaches one at least.
func TestPromise15Sources(t *testing.T) {
	for _, c := range fewCases() {
		from, code := impl.CellsThatReach(c.s, c.begin, c.hours, c.cells)
		same(t, "code", "0", code)
		water, _ := waterAndLand(c.s)
		for _, cell := range water {
			bit := bits(int(cell))
			reached, _ := impl.ReachedBy(c.s, planAt(c, bit), c.cells)
			if (reached != 0) != (from&bit != 0) {
				t.Fatalf("%v: %d reaches %b, but %b are told", c, cell, reached, from)
			}
		}
		if from&c.s.Land != 0 {
			t.Fatalf("%v: %b are on land", c, from)
		}
	}
}

// TestPromise16Shares sums the shares of spreads, of plans and of single cells.
func TestPromise16Shares(t *testing.T) {
	for _, c := range manyPlans() {
		x, code := impl.SpreadOfPlan(c.s, c.p)
		if code != impl.OK {
			continue
		}
		afloat, one := impl.AfloatIn(c.s, x)
		stranded, two := impl.StrandedIn(c.s, x)
		lost, three := impl.LostShare(c.s, x)
		parts, four := impl.PartsAfter(int64(c.p.Hours))
		same(t, "codes", "0 0 0 0", one, two, three, four)
		if afloat+stranded+x.Out != bottlesOf(c.p)*parts || x.Bottles != bottlesOf(c.p) {
			t.Fatalf("%v, %v: %d, %d and %d are not all", c.s, c.p, afloat, stranded, x.Out)
		}
		sum := fractionOf(t, lost)
		for _, cell := range cellsOf(c.s) {
			share, code := impl.ShareIn(c.s, x, bits(int(cell)))
			found, again := impl.FoundOn(c.s, c.p, bits(int(cell)))
			same(t, "shares", "0 0 true", code, again, share == found)
			sum.Add(sum, fractionOf(t, share))
		}
		if sum.Cmp(big.NewRat(1, 1)) != 0 {
			t.Fatalf("%v, %v: shares sum to %v", c.s, c.p, sum)
		}
	}
}

// TestPromise16Bottles follows single bottles of plans, each from its hour on:
// they end where the spread has something, and cover what is covered at last.
func TestPromise16Bottles(t *testing.T) {
	seed := uint32(16)
	for _, c := range manyPlans() {
		x, code := impl.SpreadOfPlan(c.s, c.p)
		if code != impl.OK {
			continue
		}
		reached, _ := impl.ReachedBy(c.s, c.p, allBits(c.s))
		for _, one := range c.p.Releases {
			tide, left := int64(c.p.Begin+one.Hour)%2, int64(c.p.Hours-one.Hour)
			for range 20 {
				path, next, code := impl.DriftBottle(c.s, int64(one.Cell), tide, left, seed)
				seed = next
				end := path[left]
				if code != impl.OK || end == impl.Lost && x.Out == 0 || end != impl.Lost && (x.At[end] == 0 || reached&bits(int(end)) == 0) {
					t.Fatalf("%v, %v: %v ends at %d, but %v", c.s, c.p, one, end, x)
				}
			}
			counts, gone, next, code := impl.CountDrifts(c.s, int64(one.Cell), tide, left, seed, 50)
			seed = next
			same(t, "bottles", "0", code)
			for cell, many := range counts {
				gone += many
				if many > 0 && x.At[cell] == 0 {
					t.Fatalf("%v, %v: %d of %v at %d, but %v", c.s, c.p, many, one, cell, x)
				}
			}
			same(t, "all bottles", "50", gone)
		}
	}
	// Each bottle of this plan surely comes to its own cell.
	s, p := eastByTide(t), planOf(0, 4, [3]int{0, 0, 3}, [3]int{0, 1, 2}, [3]int{1, 3, 1})
	x, _ := impl.SpreadOfPlan(s, p)
	same(t, "for sure", "true", x.At == [36]int64{1: 3 * power(4), 2: 3 * power(4)})
}

// TestPromise16Reached holds what plans reach against all ways: each cell that
// is covered has a path from a release, and no other one has.
func TestPromise16Reached(t *testing.T) {
	r := rand.New(rand.NewSource(161))
	for _, c := range manyPlans() {
		reached, code := impl.ReachedBy(c.s, c.p, allBits(c.s))
		same(t, "reached", "0", code)
		some := cellsOf(c.s)
		r.Shuffle(len(some), func(i, j int) { some[i], some[j] = some[j], some[i] })
		for _, to := range some[:min(3, len(some))] {
			var paths int64
			for _, one := range c.p.Releases {
				count, code := impl.CountPaths(c.s, int64(one.Cell), int64(c.p.Begin+one.Hour)%2, int64(c.p.Hours-one.Hour), to)
				same(t, "paths", "0", code)
				paths += count
			}
			covers, _ := impl.PlanCovers(c.s, c.p, bits(int(to)))
			if (paths > 0) != (reached&bits(int(to)) != 0) || covers != (paths > 0) {
				t.Fatalf("%v, %v: %d paths to %d, but %b is reached", c.s, c.p, paths, to, reached)
			}
		}
		if len(c.p.Releases) > 0 && reached != 0 {
			cell, share, code := impl.PoorestBeach(c.s, c.p, reached)
			same(t, "something in each", "true 0 true", share.P > 0, code, reached&bits(int(cell)) != 0)
		}
	}
}

// TestPromise16Given has plans with bottles that are given out, and without
// releases that are needless: they reach what they did.
func TestPromise16Given(t *testing.T) {
	r := rand.New(rand.NewSource(162))
	for _, c := range manyPlans() {
		reached, _ := impl.ReachedBy(c.s, c.p, allBits(c.s))
		cells := someCells(r, c.s)
		before, _ := impl.FoundOn(c.s, c.p, cells)
		more, code := impl.GiveOut(c.s, c.p, cells, int64(r.Intn(60)))
		if code == impl.OK {
			again, _ := impl.ReachedBy(c.s, more, allBits(c.s))
			// As many as there is room for go to the best release of the plan.
			after, _ := impl.FoundOn(c.s, more, cells)
			roomy := !slices.ContainsFunc(more.Releases, func(x impl.Release) bool { return x.Bottles == 200 })
			if again != reached || roomy && fractionOf(t, after).Cmp(fractionOf(t, before)) < 0 {
				t.Fatalf("%v, %v, %b: %b and %v, but with more bottles %b and %v", c.s, c.p, cells, reached, before, again, after)
			}
		}
		p := c.p
		for {
			index, code := impl.NeedlessRelease(c.s, p, reached)
			if code != impl.OK {
				same(t, "all are needed", "6", code)
				break
			}
			p.Releases = slices.Concat(p.Releases[:index], p.Releases[index+1:])
			covers, _ := impl.PlanCovers(c.s, p, reached)
			same(t, "still covers", "true", covers)
		}
	}
}
