package tests

import (
	"math/big"
	"slices"
	"testing"

	"loop.example/g01300/impl"
)

// listsToTry returns finds of all kinds, valid for a sea or not.
func listsToTry(s impl.Sea) [][]impl.Find {
	list := [][]impl.Find{nil, {}, {{}}, {{Beach: -128, Hour: 127}}, {{Beach: 2, Hour: 1}}, {{Beach: 35, Hour: 14}}, repeated(impl.Find{Beach: 2, Hour: 3}, 61)}
	if impl.ValidSea(s) && s.Land != 0 {
		list = append(list, manyFinds(s)...)
	}
	return list
}

// callsOfFinds returns calls of all functions of chapter 3.
func callsOfFinds(s impl.Sea) []call {
	var list []call
	add := func(name string, run func() []any) { list = append(list, call{name, run}) }
	lists := listsToTry(s)
	for i, a := range lists {
		b := lists[(i+1)%len(lists)]
		text := impl.FindsText(s, a) + []string{"", "\n", "2 1\n"}[i%3]
		add("ValidFinds", func() []any { return []any{impl.ValidFinds(s, a)} })
		add("SameFinds", func() []any { return []any{impl.SameFinds(a, b)} })
		add("CountByBeach", func() []any { x, c := impl.CountByBeach(s, a); return []any{x, c} })
		add("BusiestBeach", func() []any { x, y, c := impl.BusiestBeach(s, a); return []any{x, y, c} })
		add("SortFinds", func() []any { x, c := impl.SortFinds(s, a); return []any{x, c} })
		add("MergeFinds", func() []any { x, c := impl.MergeFinds(s, a, b); return []any{x, c} })
		add("MergeFinds", func() []any { x, c := impl.MergeFinds(s, a, a); return []any{x, c} })
		add("MeanHour", func() []any { x, c := impl.MeanHour(s, a); return []any{x, c} })
		add("FindsText", func() []any { return []any{impl.FindsText(s, a)} })
		add("ReadFinds", func() []any { x, c := impl.ReadFinds(s, text); return []any{x, c} })
		for _, n := range hardNumbers {
			add("SeenAtVisits", func() []any { x, c := impl.SeenAtVisits(s, a, n); return []any{x, c} })
			add("ImpossibleFinds", func() []any { x, c := impl.ImpossibleFinds(s, n, int64(i%2), a); return []any{x, c} })
			add("ImpossibleFinds", func() []any { x, c := impl.ImpossibleFinds(s, 0, n, a); return []any{x, c} })
		}
	}
	return append(list, callsOfStranding(s)...)
}

// callsOfStranding returns calls of the functions with three and more numbers:
// two of them are any ones, the others good.
func callsOfStranding(s impl.Sea) []call {
	var list []call
	add := func(name string, run func() []any) { list = append(list, call{name, run}) }
	water, land := waterAndLand(s)
	cell, beach := append(water, 0)[0], append(land, 2)[0]
	for _, n := range hardNumbers {
		for _, m := range hardNumbers {
			f := impl.Find{Beach: int8(beach), Hour: int8(m)}
			add("StrandsIn", func() []any { x, c := impl.StrandsIn(s, n, 1, m); return []any{x, c} })
			add("StrandsIn", func() []any { x, c := impl.StrandsIn(s, cell, n, m); return []any{x, c} })
			add("StrandedBy", func() []any { x, c := impl.StrandedBy(s, n, 0, m); return []any{x, c} })
			add("FindShare", func() []any { x, c := impl.FindShare(s, cell, 0, beach, n, m); return []any{x, c} })
			add("FindShare", func() []any { x, c := impl.FindShare(s, n, 0, m, 1, 6); return []any{x, c} })
			add("CanBeFound", func() []any { x, c := impl.CanBeFound(s, n, 1, f); return []any{x, c} })
			add("EarliestFind", func() []any { x, c := impl.EarliestFind(s, cell, n, m); return []any{x, c} })
			add("EarliestFind", func() []any { x, c := impl.EarliestFind(s, n, 1, m); return []any{x, c} })
			add("ReachedBeaches", func() []any { x, c := impl.ReachedBeaches(s, n, 0, m); return []any{x, c} })
			add("FindsOfBottles", func() []any { x, y, c := impl.FindsOfBottles(s, cell, 1, n, 9, m); return []any{x, y, c} })
			add("FindsOfBottles", func() []any { x, y, c := impl.FindsOfBottles(s, n, m, 14, 9, 5); return []any{x, y, c} })
			add("CollectedAt", func() []any { x, c := impl.CollectedAt(s, cell, 0, beach, n, m); return []any{x, c} })
			add("CollectedAt", func() []any { x, c := impl.CollectedAt(s, n, 1, m, 2, 7); return []any{x, c} })
		}
	}
	return list
}

// withCapacity returns finds in the middle of a larger memory, and this.
func withCapacity(list []impl.Find) (middle, memory []impl.Find) {
	guard := []impl.Find{{Beach: 77, Hour: 77}, {Beach: 78, Hour: 78}, {Beach: 79, Hour: 79}}
	memory = slices.Concat(guard, list, repeated(guard[0], 200))
	return memory[3 : 3+len(list)], memory
}

// TestPromise1Finds looks at the finds behind all calls, at the unused
// capacity behind them, and whether results share memory with them.
func TestPromise1Finds(t *testing.T) {
	for _, s := range coastalSeas()[:20] {
		water, _ := waterAndLand(s)
		for _, list := range manyFinds(s) {
			if len(list) > 30 {
				list = list[:30]
			}
			a, memory := withCapacity(list)
			b, other := withCapacity(list)
			before := slices.Clone(memory)
			run := func() [][]impl.Find {
				sorted, _ := impl.SortFinds(s, a)
				merged, _ := impl.MergeFinds(s, a, b)
				alone, _ := impl.MergeFinds(s, a, nil)
				behind, _ := impl.MergeFinds(s, nil, a)
				seen, _ := impl.SeenAtVisits(s, a, 1)
				twice, _ := impl.SeenAtVisits(s, a, 7)
				return [][]impl.Find{sorted, merged, alone, behind, seen, twice}
			}
			first := run()
			var want [][]impl.Find
			for _, result := range first {
				want = append(want, slices.Clone(result))
			}
			impl.ValidFinds(s, a)
			impl.SameFinds(a, b)
			impl.ImpossibleFinds(s, water[0], 0, a)
			impl.CountByBeach(s, a)
			impl.BusiestBeach(s, a)
			impl.MeanHour(s, a)
			impl.FindsText(s, a)
			for i, result := range first {
				for j := range result[:cap(result)] {
					result[:cap(result)][j] = impl.Find{Beach: -9, Hour: -9}
				}
				if i+1 < len(first) && !slices.Equal(first[i+1], want[i+1]) {
					t.Fatalf("the results %d and %d share memory", i, i+1)
				}
			}
			if !slices.Equal(memory, before) || !slices.Equal(other, before) {
				t.Fatalf("%v has been changed: %v", before, memory)
			}
			if again := run(); !slices.EqualFunc(again, want, slices.Equal) {
				t.Fatalf("%v, then %v", want, again)
			}
		}
	}
}

// TestPromise5Sums sums what strands hour by hour, and holds the sum against
// what has stranded, what SpreadAt has on land, and the shares.
func TestPromise5Sums(t *testing.T) {
	for i, s := range coastalSeas() {
		water, land := waterAndLand(s)
		cell, begin := water[i%len(water)], int64(i/3%2)
		x := at(t, s, cell, 1, begin)
		var sum [36]int64
		for hour := int64(1); hour <= 14; hour++ {
			in, one := impl.StrandsIn(s, cell, begin, hour)
			by, two := impl.StrandedBy(s, cell, begin, hour)
			x = drifted(t, s, x, 1)
			for number := range sum {
				sum[number] = 12*sum[number] + in[number]
				if in[number] < 0 || sum[number] > 0 && !slices.Contains(land, int64(number)) {
					t.Fatalf("%v, %d: %d strands at %d", s, cell, in[number], number)
				}
				if slices.Contains(land, int64(number)) && by[number] != x.At[number] {
					t.Fatalf("%v, %d: %d at %d by %d: %v", s, cell, by[number], number, hour, x)
				}
			}
			if one != impl.OK || two != impl.OK || by != sum {
				t.Fatalf("%v, %d: %v by %d, want %v", s, cell, by, hour, sum)
			}
			checkShares(t, s, cell, begin, hour, sum)
		}
	}
}

// checkShares holds the shares of a beach, hour by hour and cut anywhere,
// against what has stranded by an hour.
func checkShares(t *testing.T, s impl.Sea, cell, begin, hour int64, stranded [36]int64) {
	t.Helper()
	_, land := waterAndLand(s)
	beach := land[int(hour)%len(land)]
	want := big.NewRat(stranded[beach], power(int(hour)))
	for cut := range hour + 1 {
		sum := new(big.Rat)
		if cut > 0 {
			early, _ := impl.FindShare(s, cell, begin, beach, 1, cut)
			sum.Add(sum, fractionOf(t, early))
		}
		if cut < hour {
			late, _ := impl.FindShare(s, cell, begin, beach, cut+1, hour)
			sum.Add(sum, fractionOf(t, late))
		}
		if sum.Cmp(want) != 0 {
			t.Fatalf("%v, %d on %d: %v by %d, cut at %d, want %v", s, cell, beach, sum, hour, cut, want)
		}
	}
}

// TestPromise5Collected sums what is collected at all visits: a beach that is
// cleaned has nothing of it at the next visit.
func TestPromise5Collected(t *testing.T) {
	for i, s := range coastalSeas() {
		water, land := waterAndLand(s)
		cell, begin := water[i%len(water)], int64(i%2)
		beach := land[i%len(land)]
		every := int64(1 + i%14)
		visits := 14 / every
		shares, code := impl.CollectedAt(s, cell, begin, beach, every, visits)
		if code != impl.OK || int64(len(shares)) != visits {
			t.Fatalf("%v %d", shares, code)
		}
		sum := new(big.Rat)
		for visit, share := range shares {
			hour := every * int64(visit+1)
			one, _ := impl.FindShare(s, cell, begin, beach, hour-every+1, hour)
			if one != share {
				t.Fatalf("%v, %d on %d: %v in the hours to %d, want %v", s, cell, beach, share, hour, one)
			}
			sum.Add(sum, fractionOf(t, share))
			by, _ := impl.StrandedBy(s, cell, begin, hour)
			if sum.Cmp(big.NewRat(by[beach], power(int(hour)))) != 0 {
				t.Fatalf("%v, %d on %d: %v by %d, want %v", s, cell, beach, sum, hour, by)
			}
		}
	}
}

// TestPromise6 holds the finds of bottles that are followed against those that
// can be.
func TestPromise6(t *testing.T) {
	found := 0
	for i, s := range coastalSeas() {
		water, land := waterAndLand(s)
		cell, begin, hours := water[i%len(water)], int64(i%2), int64(1+i%14)
		list, seed, code := impl.FindsOfBottles(s, cell, begin, hours, uint32(i), 60)
		if code != impl.OK || !impl.ValidFinds(s, list) || len(list) > 60 {
			t.Fatalf("%v %d", list, code)
		}
		found += len(list)
		none, code := impl.ImpossibleFinds(s, cell, begin, list)
		same(t, "impossible", "0 0", len(none), code)
		reached, _ := impl.ReachedBeaches(s, cell, begin, hours)
		for _, f := range list {
			can, _ := impl.CanBeFound(s, cell, begin, f)
			first, _ := impl.EarliestFind(s, cell, begin, int64(f.Beach))
			in, _ := impl.StrandsIn(s, cell, begin, int64(f.Hour))
			if !can || first > int64(f.Hour) || int64(f.Hour) > hours || reached&bits(int(f.Beach)) == 0 || in[f.Beach] == 0 {
				t.Fatalf("%v, %d: %v cannot be", s, cell, f)
			}
		}
		counts, _, behind, _ := impl.CountDrifts(s, cell, begin, hours, uint32(i), 60)
		byBeach, _ := impl.CountByBeach(s, list)
		for _, beach := range land {
			if counts[beach] != byBeach[beach] {
				t.Fatalf("%v, %d: %d finds on %d, want %d", s, cell, byBeach[beach], beach, counts[beach])
			}
		}
		if seed != behind {
			t.Fatalf("the seed is %d, want %d", seed, behind)
		}
	}
	if found < 1000 {
		t.Errorf("only %d bottles have been found", found)
	}
}

// TestPromise6All has each find that can be, up to an hour, among those of
// many bottles, and none else.
func TestPromise6All(t *testing.T) {
	s := still(t, 3, 1, bits(0, 2))
	s.Tides[impl.TdFlood][1] = impl.Chances{8, 0, 4, 0, 0}
	s.Tides[impl.TdEbb][1] = impl.Chances{7, 0, 0, 0, 5}
	times := map[impl.Find]int{}
	seed := uint32(1)
	for range 300 {
		list, behind, code := impl.FindsOfBottles(s, 1, impl.TdFlood, 5, seed, 50)
		if code != impl.OK {
			t.Fatalf("code %d", code)
		}
		for _, f := range list {
			times[f]++
		}
		seed = behind
	}
	for hour := range int8(14) {
		for _, beach := range []int8{0, 2} {
			f := impl.Find{Beach: beach, Hour: hour + 1}
			can, code := impl.CanBeFound(s, 1, impl.TdFlood, f)
			if code != impl.OK || (times[f] > 0) != (can && f.Hour <= 5) {
				t.Errorf("%v: %d times, %v", f, times[f], can)
			}
		}
	}
}
