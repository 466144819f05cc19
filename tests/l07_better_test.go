package tests

import (
	"math/big"
	mathbits "math/bits"
	"math/rand"
	"slices"
	"testing"

	"loop.example/g01300/impl"
)

// eastByTide returns a row of 5 cells of water: by flood all goes to the east,
// by ebb all stays.
func eastByTide(t *testing.T) impl.Sea {
	t.Helper()
	c := [2]impl.Chances{{impl.WyEast: 12}, {impl.WyStay: 12}}
	return rowOf(t, 0, c, c, c, c, c)
}

// TestBestByHand has best hours and cells that can be counted by hand.
func TestBestByHand(t *testing.T) {
	s := eastByTide(t)
	p := impl.Plan{Hours: 6}
	// Floods are the hours 0, 2 and 4: the cell 1 has just two of them left at the
	// hour 1, and also at the hour 2.
	for cell, want := range []string{"0 {1 1} 0", "1 {1 1} 0", "3 {1 1} 0", "5 {1 1} 0", "0 {0 1} 0"} {
		hour, share, code := impl.BestHour(s, p, int64(cell), bits(3))
		same(t, "by flood", want, hour, share, code)
	}
	cell, hour, share, code := impl.BestCell(s, p, bits(3))
	same(t, "the first cell", "0 0 {1 1} 0", cell, hour, share, code)
	// With the ebb first the last hour is a flood.
	p.Begin = impl.TdEbb
	hour, share, code = impl.BestHour(s, p, 3, bits(3))
	same(t, "by ebb", "0 {0 1} 0", hour, share, code)
	hour, share, code = impl.BestHour(s, p, 2, bits(3))
	same(t, "by ebb", "4 {1 1} 0", hour, share, code)
	cell, hour, share, code = impl.BestCell(s, p, bits(4))
	same(t, "by ebb", "1 0 {1 1} 0", cell, hour, share, code)
	for _, cells := range []uint64{0, bits(2)} {
		cell, hour, share, code = impl.BestCell(s, impl.Plan{Hours: 1, Begin: 0}, cells)
		same(t, "equal cells", map[uint64]string{0: "0 0 {0 1} 0", 4: "1 0 {1 1} 0"}[cells], cell, hour, share, code)
	}
}

// TestBest holds the best hour and the best cell against the chances of all.
func TestBest(t *testing.T) {
	r := rand.New(rand.NewSource(73))
	late := 0
	for i, c := range manyPlans() {
		if i%3 > 0 {
			continue
		}
		water, _ := waterAndLand(c.s)
		cells := someCells(r, c.s)
		var bestCell, bestHour int64
		var most *big.Rat
		for _, cell := range water {
			hour, chance := int64(0), chanceByHand(c.s, c.p, cell, 0, cells)
			for h := int64(1); h < int64(c.p.Hours); h++ {
				if other := chanceByHand(c.s, c.p, cell, h, cells); other.Cmp(chance) > 0 {
					hour, chance = h, other
				}
			}
			got, share, code := impl.BestHour(c.s, c.p, cell, cells)
			if got != hour || code != impl.OK || !isRat(t, share, chance) {
				t.Fatalf("%v, %v, %d, %b: %d, %v, %d, want %d, %v", c.s, c.p, cell, cells, got, share, code, hour, chance)
			}
			if most == nil || chance.Cmp(most) > 0 {
				bestCell, bestHour, most = cell, hour, chance
			}
			if hour > 0 {
				late++
			}
		}
		cell, hour, share, code := impl.BestCell(c.s, c.p, cells)
		if cell != bestCell || hour != bestHour || code != impl.OK || !isRat(t, share, most) {
			t.Fatalf("%v, %v, %b: %d, %d, %v, %d, want %d, %d, %v", c.s, c.p, cells, cell, hour, share, code, bestCell, bestHour, most)
		}
	}
	if late < 100 {
		t.Errorf("only %d cells are better later", late)
	}
}

// TestBestLooksAtHoursAlone has plans of the same hours with other releases.
func TestBestLooksAtHoursAlone(t *testing.T) {
	for _, c := range manyPlans() {
		bare := impl.Plan{Begin: c.p.Begin, Hours: c.p.Hours}
		cell, hour, share, one := impl.BestCell(c.s, c.p, c.s.Land)
		cell2, hour2, share2, two := impl.BestCell(c.s, bare, c.s.Land)
		if cell != cell2 || hour != hour2 || share != share2 || one != two {
			t.Fatalf("%v, %v: %d, %d, %v, and %d, %d, %v without releases", c.s, c.p, cell, hour, share, cell2, hour2, share2)
		}
		hour, share, one = impl.BestHour(c.s, c.p, cell, c.s.Land)
		if hour != hour2 || share != share2 || one != impl.OK {
			t.Fatalf("%v, %v: %d, %v in the best cell %d, and not %d, %v", c.s, c.p, hour, share, cell, hour2, share2)
		}
	}
}

// sourcesByHand returns for each cell the bits of all water from which a bottle
// may be there behind so many hours.
func sourcesByHand(s impl.Sea, begin, hours int64) [36]uint64 {
	var sources [36]uint64
	p := impl.Plan{Begin: int8(begin), Hours: int8(hours)}
	water, _ := waterAndLand(s)
	for _, cell := range water {
		reach := reachByHand(s, p, impl.Release{Cell: int8(cell), Bottles: 1})
		for to := range sources {
			if reach&bits(to) != 0 {
				sources[to] |= bits(int(cell))
			}
		}
	}
	return sources
}

func TestCellsThatReach(t *testing.T) {
	r := rand.New(rand.NewSource(74))
	for _, s := range wetSeas() {
		for range 3 {
			begin, hours := int64(r.Intn(2)), int64(1+r.Intn(8))
			sources := sourcesByHand(s, begin, hours)
			for _, cells := range []uint64{0, s.Land, allBits(s), someCells(r, s), bits(int(cellsOf(s)[0]))} {
				var want uint64
				for to, from := range sources {
					if cells&bits(to) != 0 {
						want |= from
					}
				}
				got, code := impl.CellsThatReach(s, begin, hours, cells)
				if got != want || code != impl.OK {
					t.Fatalf("%v, %d, %d, %b: %b %d, want %b", s, begin, hours, cells, got, code, want)
				}
			}
		}
	}
	row := eastByTide(t)
	for i, want := range []uint64{bits(1), bits(1), bits(0), bits(0), 0, 0, 0, 0} {
		got, code := impl.CellsThatReach(row, impl.TdFlood, int64(i+1), bits(2))
		same(t, "just behind the hours", "true 0", got == want, code)
	}
	got, code := impl.CellsThatReach(row, impl.TdEbb, 1, bits(2))
	same(t, "by ebb", "4 0", got, code)
}

// fewestByHand returns the fewest cells that reach all of some cells, of
// several sets the one with the least number: all numbers are tried.
func fewestByHand(s impl.Sea, begin, hours int64, cells uint64) (uint64, bool) {
	sources := sourcesByHand(s, begin, hours)
	water, _ := waterAndLand(s)
	var best uint64
	found := false
	for number := range 1 << len(water) {
		var set uint64
		for i, cell := range water {
			set |= uint64(number>>i&1) << cell
		}
		if found && mathbits.OnesCount64(set) >= mathbits.OnesCount64(best) {
			continue
		}
		all := true
		for to, from := range sources {
			all = all && (cells&bits(to) == 0 || from&set != 0)
		}
		if all {
			best, found = set, true
		}
	}
	return best, found
}

// fewCase asks for the fewest cells.
type fewCase struct {
	s            impl.Sea
	begin, hours int64
	cells        uint64
}

// fewCases returns seas with at most 12 cells of water, and cells to reach.
func fewCases() []fewCase {
	r := rand.New(rand.NewSource(75))
	var list []fewCase
	for _, s := range wetSeas() {
		if water, _ := waterAndLand(s); len(water) > 12 {
			continue
		}
		for range 4 {
			c := fewCase{s, int64(r.Intn(2)), int64(1 + r.Intn(8)), someCells(r, s)}
			list = append(list, c)
			for to, from := range sourcesByHand(s, c.begin, c.hours) {
				if from != 0 && r.Intn(2) == 0 {
					c.cells |= bits(to)
				}
			}
			list = append(list, c)
		}
	}
	return list
}

func TestFewestCells(t *testing.T) {
	counts := map[int]int{}
	none := 0
	for _, c := range fewCases() {
		want, found := fewestByHand(c.s, c.begin, c.hours, c.cells)
		few, one := impl.FewestCells(c.s, c.begin, c.hours, c.cells)
		plan, two := impl.PlanFewest(c.s, c.begin, c.hours, c.cells)
		if !found {
			none++
			same(t, "none", "0 6 {0 0 []} 6", few, one, plan, two)
			continue
		}
		if few != want || one != impl.OK {
			t.Fatalf("%v: %b %d, want %b", c, few, one, want)
		}
		counts[mathbits.OnesCount64(few)]++
		wanted := impl.Plan{Begin: int8(c.begin), Hours: int8(c.hours)}
		for cell := range int8(36) {
			if few&bits(int(cell)) != 0 {
				wanted.Releases = append(wanted.Releases, impl.Release{Cell: cell, Bottles: 1})
			}
		}
		if !impl.SamePlan(plan, wanted) || two != impl.OK || !impl.ValidPlan(c.s, plan) {
			t.Fatalf("%v: %v %d, want %v", c, plan, two, wanted)
		}
	}
	if none < 50 || counts[0] < 10 || counts[1] < 50 || counts[2] < 50 || counts[3] < 20 || counts[4] < 5 {
		t.Errorf("only %d without any, and %v of each size", none, counts)
	}
}

// TestFewestByHand has sets that can be counted by hand.
func TestFewestByHand(t *testing.T) {
	calm := still(t, 6, 2, 0)
	few, code := impl.FewestCells(calm, 0, 8, allBits(calm))
	same(t, "12 cells of 12", "true 0", few == allBits(calm), code)
	plan, code := impl.PlanFewest(calm, 1, 3, allBits(calm))
	same(t, "12 releases", "12 0 true true {11 0 1}", len(plan.Releases), code, impl.ValidPlan(calm, plan), plan.Begin == 1 && plan.Hours == 3, plan.Releases[11])
	few, code = impl.FewestCells(calm, 0, 8, bits(3, 11))
	same(t, "those that stay", "true 0", few == bits(3, 11), code)
	// The cell 1 reaches its neighbours, so one of three is enough; the cell 0
	// reaches two of them alone, though its number is the least.
	mixed := rowOf(t, 0, westEast(0, 6), westEast(4, 4), westEast(6, 0))
	few, code = impl.FewestCells(mixed, 0, 1, bits(0, 1, 2))
	same(t, "one in the middle", "2 0", few, code)
	few, code = impl.FewestCells(mixed, 0, 1, bits(0, 1))
	same(t, "the first one", "1 0", few, code)
	few, code = impl.FewestCells(mixed, 0, 1, bits(1, 2))
	same(t, "the second one", "2 0", few, code)
	few, code = impl.FewestCells(mixed, 0, 1, 0)
	same(t, "none is needed", "0 0", few, code)
	plan, code = impl.PlanFewest(mixed, 1, 1, 0)
	same(t, "none is needed", "{1 1 []} 0 true", plan, code, impl.ValidPlan(mixed, plan))
	dry := still(t, 2, 2, bits(0, 1, 6, 7))
	few, one := impl.FewestCells(dry, 0, 1, 0)
	_, two := impl.FewestCells(dry, 0, 1, bits(6))
	same(t, "no water", "0 0 6", few, one, two)
}

// TestGiveOut gives bottles out by hand, one by one.
func TestGiveOut(t *testing.T) {
	r := rand.New(rand.NewSource(76))
	full, none := 0, 0
	for _, c := range manyPlans() {
		cells := someCells(r, c.s)
		bottles := r.Int63n(1001 - bottlesOf(c.p))
		if r.Intn(3) > 0 {
			bottles = min(bottles, int64(r.Intn(300)))
		}
		want := slices.Clone(c.p.Releases)
		var chances []*big.Rat
		for _, x := range want {
			chances = append(chances, chanceByHand(c.s, c.p, int64(x.Cell), int64(x.Hour), cells))
		}
		left := bottles
		for ; left > 0; left-- {
			best := -1
			for i := range want {
				if want[i].Bottles < 200 && (best < 0 || chances[i].Cmp(chances[best]) > 0) {
					best = i
				}
			}
			if best < 0 {
				break
			}
			if want[best].Bottles++; want[best].Bottles == 200 {
				full++
			}
		}
		got, code := impl.GiveOut(c.s, c.p, cells, bottles)
		if left > 0 {
			none++
			same(t, "bottles are left", "{0 0 []} 6", got, code)
			continue
		}
		if code != impl.OK || got.Begin != c.p.Begin || got.Hours != c.p.Hours || !slices.Equal(got.Releases, want) || !impl.ValidPlan(c.s, got) {
			t.Fatalf("%v, %v, %b, %d: %v %d, want %v", c.s, c.p, cells, bottles, got, code, want)
		}
	}
	if full < 50 || none < 20 {
		t.Errorf("only %d are full, and %d have no room", full, none)
	}
}

// TestGiveOutByHand has bottles that go to hours, and to those that have room.
func TestGiveOutByHand(t *testing.T) {
	s := eastward(t)
	p := planOf(0, 2, [3]int{0, 0, 1}, [3]int{1, 1, 199}, [3]int{1, 1, 1}, [3]int{1, 0, 198}, [3]int{6, 0, 1})
	for bottles, want := range []string{
		"1 199 1 198 1", "1 199 1 199 1", "1 199 1 200 1", "1 200 1 200 1", "1 200 2 200 1",
	} {
		got, code := impl.GiveOut(s, p, bits(2), int64(bottles))
		var list []any
		for _, x := range got.Releases {
			list = append(list, x.Bottles)
		}
		same(t, "bottles", want+" 0", append(list, code)...)
	}
	got, code := impl.GiveOut(s, p, bits(2), 201)
	same(t, "one is full", "{0 2 [{0 0 1} {1 1 200} {1 1 199} {1 0 200} {6 0 1}]} 0", got, code)
	got, code = impl.GiveOut(s, p, bits(2), 203)
	same(t, "three are full", "{0 2 [{0 0 2} {1 1 200} {1 1 200} {1 0 200} {6 0 1}]} 0", got, code)
	got, code = impl.GiveOut(s, p, bits(2), 402)
	same(t, "the last one", "{0 2 [{0 0 200} {1 1 200} {1 1 200} {1 0 200} {6 0 2}]} 0", got, code)
	got, code = impl.GiveOut(s, p, 0, 1)
	same(t, "all are equal", "{0 2 [{0 0 2} {1 1 199} {1 1 1} {1 0 198} {6 0 1}]} 0", got, code)
}

// TestNeedlessRelease leaves each release out by hand.
func TestNeedlessRelease(t *testing.T) {
	r := rand.New(rand.NewSource(77))
	counts := map[int64]int{}
	for _, c := range manyPlans() {
		var all uint64
		var each []uint64
		for _, x := range c.p.Releases {
			each = append(each, reachByHand(c.s, c.p, x))
			all |= each[len(each)-1]
		}
		for _, cells := range []uint64{0, all, all &^ bits(r.Intn(36)), all & r.Uint64(), all & c.s.Land, someCells(r, c.s)} {
			index, want := int64(0), int64(impl.ErrNotFound)
			for i := len(each) - 1; i >= 0; i-- {
				var others uint64
				for j, reach := range each {
					if j != i {
						others |= reach
					}
				}
				if cells&^others == 0 {
					index, want = int64(i), impl.OK
				}
			}
			if cells&^all != 0 {
				index, want = 0, impl.ErrState
			}
			got, code := impl.NeedlessRelease(c.s, c.p, cells)
			if got != index || code != want {
				t.Fatalf("%v, %v, %b: %d %d, want %d %d", c.s, c.p, cells, got, code, index, want)
			}
			counts[code]++
			counts[10+index]++
		}
	}
	if counts[0] < 100 || counts[4] < 50 || counts[6] < 100 || counts[11] < 10 || counts[12] < 5 {
		t.Errorf("only %v", counts)
	}
}

func TestNeedlessByHand(t *testing.T) {
	s := eastward(t)
	for _, one := range []struct {
		name  string
		p     impl.Plan
		cells uint64
		want  string
	}{
		{"nothing to reach", examplePlan(), 0, "0 0"},
		{"nothing to reach, and nothing released", impl.Plan{Hours: 1}, 0, "0 6"},
		{"the second one", examplePlan(), bits(0), "1 0"},
		{"either one", examplePlan(), bits(2), "0 0"},
		{"both are needed", planOf(0, 2, [3]int{0, 0, 1}, [3]int{6, 0, 1}), bits(2, 6), "0 6"},
		{"not covered", examplePlan(), bits(6), "0 4"},
		{"the last one", planOf(0, 2, [3]int{0, 0, 1}, [3]int{6, 0, 1}, [3]int{7, 0, 1}), bits(2, 6, 8), "2 0"},
		{"an hour that is too late", planOf(0, 2, [3]int{0, 0, 1}, [3]int{0, 1, 1}), bits(2), "1 0"},
		{"twice", planOf(0, 2, [3]int{0, 0, 1}, [3]int{0, 0, 1}), bits(2), "0 0"},
	} {
		index, code := impl.NeedlessRelease(s, one.p, one.cells)
		same(t, one.name, one.want, index, code)
	}
}

// TestMergeReleases merges by hand: each pair of a cell and an hour is summed.
func TestMergeReleases(t *testing.T) {
	limits, pairs := 0, 0
	for _, c := range manyPlans() {
		sums := map[[2]int8]int{}
		var order [][2]int8
		for _, x := range c.p.Releases {
			place := [2]int8{x.Cell, x.Hour}
			if sums[place] == 0 {
				order = append(order, place)
			}
			sums[place] += int(x.Bottles)
		}
		want := impl.Plan{Begin: c.p.Begin, Hours: c.p.Hours}
		tooMany := false
		for _, place := range order {
			tooMany = tooMany || sums[place] > 200
			want.Releases = append(want.Releases, impl.Release{Cell: place[0], Hour: place[1], Bottles: int16(sums[place])})
		}
		got, code := impl.MergeReleases(c.s, c.p)
		if tooMany {
			limits++
			same(t, "too many", "{0 0 []} 3", got, code)
			continue
		}
		if !impl.SamePlan(got, want) || code != impl.OK || !impl.ValidPlan(c.s, got) {
			t.Fatalf("%v, %v: %v %d, want %v", c.s, c.p, got, code, want)
		}
		if len(want.Releases) < len(c.p.Releases) {
			pairs++
		}
	}
	if limits < 20 || pairs < 50 {
		t.Errorf("only %d with too many bottles, and %d with pairs", limits, pairs)
	}
	s := eastward(t)
	for _, one := range []struct{ p, want impl.Plan }{
		{planOf(1, 3, [3]int{0, 0, 1}, [3]int{1, 0, 2}, [3]int{0, 1, 3}, [3]int{1, 0, 198}, [3]int{0, 0, 4}), planOf(1, 3, [3]int{0, 0, 5}, [3]int{1, 0, 200}, [3]int{0, 1, 3})},
		{planOf(0, 3, [3]int{8, 2, 200}, [3]int{8, 1, 200}, [3]int{7, 2, 200}), planOf(0, 3, [3]int{8, 2, 200}, [3]int{8, 1, 200}, [3]int{7, 2, 200})},
		{impl.Plan{Hours: 1}, impl.Plan{Hours: 1}},
	} {
		got, code := impl.MergeReleases(s, one.p)
		same(t, "merged", "true 0", impl.SamePlan(got, one.want), code)
	}
}
