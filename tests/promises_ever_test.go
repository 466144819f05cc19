package tests

import (
	"math"
	"math/big"
	"math/rand"
	"reflect"
	"slices"
	"testing"

	"loop.example/g01300/impl"
)

// callsOfEver returns calls of all functions of chapter 6. Numbers are put in
// the place of each argument in turn, the others being good.
func callsOfEver(s impl.Sea) []call {
	var list []call
	add := func(name string, run func() []any) { list = append(list, call{name, run}) }
	add("CanStrand", func() []any { x, c := impl.CanStrand(s); return []any{x, c} })
	add("CanBeLost", func() []any { x, c := impl.CanBeLost(s); return []any{x, c} })
	add("NeverEnds", func() []any { x, c := impl.NeverEnds(s); return []any{x, c} })
	add("GyresOf", func() []any { x, c := impl.GyresOf(s); return []any{x, c} })
	add("OpenFates", func() []any { x, c := impl.OpenFates(s); return []any{x, c} })
	for _, n := range hardNumbers {
		for _, at := range [][2]int64{{n, 0}, {n, 1}, {0, n}} {
			list = append(list, callsOfFate(s, at[0], at[1])...)
		}
		add("SafestCell", func() []any { x, y, c := impl.SafestCell(s, n); return []any{x, y, c} })
	}
	for _, cells := range []uint64{0, 1, s.Land, bits(35), bits(36), bits(63), math.MaxUint64} {
		add("CanReach", func() []any { x, c := impl.CanReach(s, 0, 1, cells); return []any{x, c} })
		add("LeastHoursTo", func() []any { x, c := impl.LeastHoursTo(s, 0, 1, cells); return []any{x, c} })
		add("WayInHours", func() []any { x, c := impl.WayInHours(s, 0, 0, cells); return []any{x, c} })
		add("BeachChance", func() []any { x, c := impl.BeachChance(s, 0, 0, cells); return []any{x, c} })
		for _, told := range chancesToTry() {
			add("CheckChances", func() []any { x, c := impl.CheckChances(s, cells, told); return []any{x, c} })
		}
	}
	return list
}

// callsOfFate returns calls of the functions with a cell and a tide.
func callsOfFate(s impl.Sea, cell, tide int64) []call {
	return []call{
		{"FatesFrom", func() []any { x, y, c := impl.FatesFrom(s, cell, tide); return []any{x, y, c} }},
		{"CanReach", func() []any { x, c := impl.CanReach(s, cell, tide, s.Land); return []any{x, c} }},
		{"LeastHoursTo", func() []any { x, c := impl.LeastHoursTo(s, cell, tide, 1); return []any{x, c} }},
		{"WayInHours", func() []any { x, c := impl.WayInHours(s, cell, tide, s.Land); return []any{x, c} }},
		{"ReturnOf", func() []any { x, c := impl.ReturnOf(s, cell, tide); return []any{x, c} }},
		{"StrandChance", func() []any { x, c := impl.StrandChance(s, cell, tide); return []any{x, c} }},
		{"BeachChance", func() []any { x, c := impl.BeachChance(s, cell, tide, s.Land); return []any{x, c} }},
		{"LostChance", func() []any { x, c := impl.LostChance(s, cell, tide); return []any{x, c} }},
		{"ForeverChance", func() []any { x, c := impl.ForeverChance(s, cell, tide); return []any{x, c} }},
		{"ExpectedHours", func() []any { x, c := impl.ExpectedHours(s, cell, tide); return []any{x, c} }},
	}
}

// chancesToTry returns lists of all kinds: of any length, and with numbers in
// range and beyond it.
func chancesToTry() [][][2]impl.Share {
	list := [][][2]impl.Share{nil, {}, make([][2]impl.Share, 35), make([][2]impl.Share, 36), make([][2]impl.Share, 37), make([][2]impl.Share, 1000)}
	for _, n := range []int64{math.MinInt64, -1, 0, 1, 1000000000, 1000000001, math.MaxInt64} {
		for _, x := range []impl.Share{{P: n, Q: 1}, {P: 0, Q: n}, {P: n, Q: n}} {
			told := make([][2]impl.Share, 36)
			for i := range told {
				told[i] = [2]impl.Share{x, {P: 0, Q: 1}}
			}
			list = append(list, told)
		}
	}
	return list
}

// seasOfFew returns some seas with few open fates, of all numbers of them.
func seasOfFew() []impl.Sea {
	few, _ := boundedSeas()
	var list []impl.Sea
	for i := 0; i < len(few); i += 40 {
		list = append(list, few[i].s)
	}
	return list
}

// TestPromise1Ever looks at lists behind all calls, at the unused capacity
// behind them, and whether results share memory.
func TestPromise1Ever(t *testing.T) {
	few, _ := boundedSeas()
	for i, known := range few {
		s := known.s
		told := toldChances(t, s, s.Land)
		guard := [2]impl.Share{{P: 77, Q: 78}, {P: 79, Q: 80}}
		memory := slices.Concat([][2]impl.Share{guard}, told, [][2]impl.Share{guard, guard})
		before := slices.Clone(memory)
		for range 2 {
			fine, code := impl.CheckChances(s, s.Land, memory[1:37])
			same(t, "told", "true 0", fine, code)
		}
		if !slices.Equal(memory, before) {
			t.Fatalf("%v has been changed: %v", before, memory)
		}
		cells := cellsOf(s)
		cell, tide := cells[i%len(cells)], int64(i%2)
		run := func() []any {
			list, _, _ := impl.FatesFrom(s, cell, tide)
			way, _ := impl.WayInHours(s, cell, tide, s.Land)
			gyres, _ := impl.GyresOf(s)
			open, _ := impl.OpenFates(s)
			return []any{list[:cap(list)], way[:cap(way)], gyres[:cap(gyres)], open[:cap(open)]}
		}
		first, second := run(), run()
		want := kept(second)
		spoil(first)
		if !reflect.DeepEqual(kept(second), want) || !reflect.DeepEqual(kept(run()), want) {
			t.Fatalf("%v, %d, %d: %v, then %v", s, cell, tide, want, run())
		}
	}
}

// TestPromise1Refused has numbers that are none between good ones: each is told
// as a code, and no call changes another one.
func TestPromise1Refused(t *testing.T) {
	s := quiet(t)
	for _, cell := range badCells {
		for _, tide := range append(badTides, 0, 1) {
			list, lost, one := impl.FatesFrom(s, cell, tide)
			x, two := impl.StrandChance(s, cell, tide)
			y, three := impl.StrandChance(s, 1, 0)
			same(t, "codes", "[] false 2 {0 0} 2 {1 3} 0", list, lost, one, x, two, y, three)
		}
	}
}

// TestPromise12Ends holds what never ends against all that comes from there:
// no fate on land, no way that is lost, and no share of a spread that has ended.
func TestPromise12Ends(t *testing.T) {
	never := 0
	for _, known := range everSeas() {
		s := known.s
		strand, _ := impl.CanStrand(s)
		lost, _ := impl.CanBeLost(s)
		ends, _ := impl.NeverEnds(s)
		beaches, _ := impl.BeachesOf(s)
		water, _ := waterAndLand(s)
		for tide := range int64(2) {
			if ends[tide]&(strand[tide]|lost[tide]) != 0 || (ends[tide]|strand[tide]|lost[tide])&^allBits(s) != 0 {
				t.Fatalf("%v: %v never ends, but %v and %v do", s, ends, strand, lost)
			}
			for _, cell := range water {
				bit := bits(int(cell))
				list, gone, one := impl.FatesFrom(s, cell, tide)
				way, two := impl.CanReach(s, cell, tide, beaches)
				_, three := impl.LeastHoursTo(s, cell, tide, s.Land)
				onLand := slices.ContainsFunc(list, func(f impl.Fate) bool { return s.Land&bits(int(f.Cell)) != 0 })
				may := strand[tide]&bit != 0
				if one != impl.OK || two != impl.OK || may != way || may != onLand || may != (three == impl.OK) || gone != (lost[tide]&bit != 0) {
					t.Fatalf("%v: %d, %d may strand: %v, but a way is %v", s, cell, tide, may, way)
				}
				if (ends[tide]&bit != 0) != (!way && !gone) {
					t.Fatalf("%v: %d, %d never ends, but has a way to a beach or is lost", s, cell, tide)
				}
				if ends[tide]&bit != 0 {
					never++
					x := drifted(t, s, at(t, s, cell, 1, tide), 14)
					stranded, _ := impl.StrandedIn(s, x)
					same(t, "ended", "0 0", stranded, x.Out)
				}
			}
		}
	}
	if never < 1000 {
		t.Errorf("only %d fates never end", never)
	}
}

// TestPromise12Gyres lets bottles and spreads drift from gyres: they stay
// there, and may come back to each fate.
func TestPromise12Gyres(t *testing.T) {
	found := 0
	for i, known := range everSeas() {
		s := known.s
		gyres, _ := impl.GyresOf(s)
		ends, _ := impl.NeverEnds(s)
		fates := 0
		for _, cells := range gyres {
			if cells == 0 || cells&^allBits(s) != 0 || cells&s.Land != 0 {
				t.Fatalf("%v: %d is no gyre", s, cells)
			}
			in := gyreFates(t, s, cells)
			if len(in) == 0 {
				t.Fatalf("%v: %d has no fates", s, cells)
			}
			fates += len(in)
			for _, f := range in {
				found++
				cell, tide := int64(f.Cell), int64(f.Tide)
				hours, code := impl.ReturnOf(s, cell, tide)
				same(t, "comes back", "true 0", hours > 0 && ends[tide]&bits(int(cell)) != 0, code)
				x := drifted(t, s, at(t, s, cell, 1, tide), int64(i%15))
				for to, much := range x.At {
					if much > 0 && cells&bits(to) == 0 {
						t.Fatalf("%v: %d is left from %v for %d", s, cells, f, to)
					}
				}
				path, _, _ := impl.DriftBottle(s, cell, tide, 14, uint32(i))
				if slices.ContainsFunc(path, func(to int64) bool { return to < 0 || cells&bits(int(to)) == 0 }) {
					t.Fatalf("%v: %d is left from %v by %v", s, cells, f, path)
				}
			}
		}
		// What never ends comes to a gyre at last.
		for tide := range int64(2) {
			for _, cell := range cellsOf(s) {
				if ends[tide]&bits(int(cell)) == 0 {
					continue
				}
				list, _, _ := impl.FatesFrom(s, cell, tide)
				if !slices.ContainsFunc(gyres, func(cells uint64) bool { return overlaps(list, gyreFates(t, s, cells)) }) {
					t.Fatalf("%v: no gyre comes from %d, %d: %v", s, cell, tide, gyres)
				}
			}
		}
	}
	if found < 1000 {
		t.Errorf("only %d fates are in gyres", found)
	}
}

// gyreFates returns all fates from which just these cells come, again and
// again.
func gyreFates(t *testing.T, s impl.Sea, cells uint64) []impl.Fate {
	t.Helper()
	var in []impl.Fate
	for _, cell := range cellsOf(s) {
		for tide := range int64(2) {
			if cells&bits(int(cell)) == 0 {
				continue
			}
			list, lost, code := impl.FatesFrom(s, cell, tide)
			var come uint64
			back := true
			for _, f := range list {
				come |= bits(int(f.Cell))
				again, _, _ := impl.FatesFrom(s, int64(f.Cell), int64(f.Tide))
				back = back && slices.Equal(again, list)
			}
			if come == cells && back && !lost && code == impl.OK {
				in = append(in, impl.Fate{Cell: int8(cell), Tide: int8(tide)})
			}
		}
	}
	return in
}

// overlaps reports whether two lists have a fate together.
func overlaps(a, b []impl.Fate) bool {
	return slices.ContainsFunc(a, func(f impl.Fate) bool { return slices.Contains(b, f) })
}

// TestPromise13Sums sums all chances, and those of all beaches.
func TestPromise13Sums(t *testing.T) {
	r := rand.New(rand.NewSource(13))
	few, _ := boundedSeas()
	all := 0
	for _, known := range few {
		s := known.s
		_, land := waterAndLand(s)
		open, _ := impl.OpenFates(s)
		for _, cell := range cellsOf(s) {
			tide := int64(r.Intn(2))
			strand, one := impl.StrandChance(s, cell, tide)
			lost, two := impl.LostChance(s, cell, tide)
			ever, three := impl.ForeverChance(s, cell, tide)
			_, four := impl.ExpectedHours(s, cell, tide)
			same(t, "codes", "0 0 0", one, two, three)
			sum := new(big.Rat).Add(fractionOf(t, strand), fractionOf(t, lost))
			if sum.Add(sum, fractionOf(t, ever)).Cmp(big.NewRat(1, 1)) != 0 || min(strand.P, lost.P, ever.P) < 0 {
				t.Fatalf("%v, %d, %d: %v, %v and %v", s, cell, tide, strand, lost, ever)
			}
			if (ever.P > 0) != (four == impl.ErrState) {
				t.Fatalf("%v, %d, %d: for ever with %v, but the hours tell %d", s, cell, tide, ever, four)
			}
			same(t, "whether it is open", "true", slices.Contains(open, impl.Fate{Cell: int8(cell), Tide: int8(tide)}) == (ever.P < ever.Q && s.Land&bits(int(cell)) == 0))
			if strand.P > 0 && lost.P > 0 && ever.P > 0 {
				all++
			}
			sum = new(big.Rat)
			for _, beach := range land {
				x, code := impl.BeachChance(s, cell, tide, bits(int(beach)))
				same(t, "beach", "0", code)
				sum.Add(sum, fractionOf(t, x))
			}
			if sum.Cmp(fractionOf(t, strand)) != 0 {
				t.Fatalf("%v, %d, %d: all beaches have %v, and not %v", s, cell, tide, sum, strand)
			}
		}
	}
	if all < 20 {
		t.Errorf("only %d fates with all three ends", all)
	}
}

// TestPromise13Spreads holds the chances against spreads: what has stranded, or
// is lost, behind some hours is no more than what ever does so, on each beach,
// and in the end it comes near to it where it ends soon.
func TestPromise13Spreads(t *testing.T) {
	few, _ := boundedSeas()
	near := 0
	for i, known := range few {
		s := known.s
		water, land := waterAndLand(s)
		if len(water) == 0 {
			continue
		}
		for _, f := range append(known.open(), numberOf(water[i%len(water)], int64(i%2))) {
			cell, tide := int64(f/2), int64(f%2)
			strand, _ := impl.StrandChance(s, cell, tide)
			lost, _ := impl.LostChance(s, cell, tide)
			x := at(t, s, cell, 1, tide)
			for hour := range 15 {
				stranded, _ := impl.StrandedIn(s, x)
				past, future := big.NewRat(stranded, power(hour)), fractionOf(t, strand)
				if past.Cmp(future) > 0 || big.NewRat(x.Out, power(hour)).Cmp(fractionOf(t, lost)) > 0 {
					t.Fatalf("%v, %d, %d: behind %d hours %v, but ever %v and %v", s, cell, tide, hour, x, strand, lost)
				}
				if gap := past.Sub(future, past); hour == 14 && strand.P > 0 && gap.Cmp(big.NewRat(1, 1000)) < 0 {
					near++
				}
				if hour < 14 {
					x = drifted(t, s, x, 1)
				}
			}
			for _, beach := range land {
				ever, _ := impl.BeachChance(s, cell, tide, bits(int(beach)))
				if big.NewRat(x.At[beach], power(14)).Cmp(fractionOf(t, ever)) > 0 {
					t.Fatalf("%v, %d, %d: %d has %v, but ever %v", s, cell, tide, beach, x.At[beach], ever)
				}
			}
		}
	}
	if near < 200 {
		t.Errorf("only %d fates come near to their chance", near)
	}
}

// TestPromise13Hour takes the chances of a fate from those of an hour later.
func TestPromise13Hour(t *testing.T) {
	few, _ := boundedSeas()
	for _, known := range few {
		s := known.s
		for _, f := range known.open() {
			strand, _ := impl.StrandChance(s, int64(f/2), int64(f%2))
			hours, code := impl.ExpectedHours(s, int64(f/2), int64(f%2))
			chance, mean := new(big.Rat), big.NewRat(1, 1)
			for way, parts := range s.Tides[f%2][f/2] {
				to := stepByHand(s, f/2, way)
				if parts == 0 || to < 0 {
					continue
				}
				part := big.NewRat(int64(parts), 12)
				x, _ := impl.StrandChance(s, int64(to), int64(1-f%2))
				y, later := impl.ExpectedHours(s, int64(to), int64(1-f%2))
				chance.Add(chance, new(big.Rat).Mul(part, fractionOf(t, x)))
				if code == impl.OK {
					same(t, "later", "0", later)
					mean.Add(mean, new(big.Rat).Mul(part, fractionOf(t, y)))
				}
			}
			if chance.Cmp(fractionOf(t, strand)) != 0 || code == impl.OK && mean.Cmp(fractionOf(t, hours)) != 0 {
				t.Fatalf("%v, %d: %v and %v, but an hour later %v and %v", s, f, strand, hours, chance, mean)
			}
		}
	}
}
