package tests

import (
	"math"
	"testing"

	"loop.example/g01300/impl"
)

// codesOfReleases returns the codes of all functions of chapter 3 with a cell
// and a tide, the other arguments of which are good, in a fixed order.
func codesOfReleases(s impl.Sea, cell, begin int64) []any {
	good := impl.Find{Beach: 2, Hour: 2}
	_, c1 := impl.StrandsIn(s, cell, begin, 2)
	_, c2 := impl.StrandedBy(s, cell, begin, 2)
	_, c3 := impl.FindShare(s, cell, begin, 2, 1, 2)
	_, c4 := impl.CanBeFound(s, cell, begin, good)
	_, c5 := impl.EarliestFind(s, cell, begin, 2)
	_, c6 := impl.ImpossibleFinds(s, cell, begin, []impl.Find{good})
	_, c7 := impl.ReachedBeaches(s, cell, begin, 2)
	_, _, c8 := impl.FindsOfBottles(s, cell, begin, 2, 1, 1)
	_, c9 := impl.CollectedAt(s, cell, begin, 2, 1, 1)
	_, c10 := impl.FindShare(s, cell, begin, 2, 2, 1)
	_, c11 := impl.ImpossibleFinds(s, cell, begin, nil)
	return []any{c1, c2, c3, c4, c5, c6, c7, c8, c9, c10, c11}
}

func TestReleaseErrors(t *testing.T) {
	s := eastward(t)
	same(t, "good", "0 0 0 0 0 0 0 0 0 0 0", codesOfReleases(s, 0, impl.TdEbb)...)
	for _, cell := range append(badCells, impl.Lost) {
		same(t, "no cell", "2 2 2 2 2 2 2 2 2 2 2", codesOfReleases(s, cell, impl.TdFlood)...)
	}
	// The cell 2 is land, but the range is looked at first.
	for _, tide := range badTides {
		same(t, "no tide", "2 2 2 2 2 2 2 2 2 2 2", codesOfReleases(s, 0, tide)...)
		same(t, "no tide on land", "2 2 2 2 2 2 2 2 2 2 2", codesOfReleases(s, 2, tide)...)
	}
	same(t, "land", "4 4 4 4 4 4 4 4 4 4 4", codesOfReleases(s, 2, impl.TdFlood)...)
	for name, bad := range badSeas(t) {
		same(t, name, "1 1 1 1 1 1 1 1 1 1 1", codesOfReleases(bad, 0, impl.TdFlood)...)
		same(t, name, "1 1 1 1 1 1 1 1 1 1 1", codesOfReleases(bad, 99, 9)...)
	}
}

// TestHourErrors gives hours out of range, from water and from land.
func TestHourErrors(t *testing.T) {
	s := eastward(t)
	for _, hour := range badFirstHours {
		for _, cell := range []int64{0, 2} {
			in, c1 := impl.StrandsIn(s, cell, 0, hour)
			by, c2 := impl.StrandedBy(s, cell, 0, hour)
			reached, c3 := impl.ReachedBeaches(s, cell, 0, hour)
			list, seed, c4 := impl.FindsOfBottles(s, cell, 0, hour, 5, 1)
			one, c5 := impl.FindShare(s, cell, 0, 2, hour, 14)
			two, c6 := impl.FindShare(s, cell, 0, 2, 1, hour)
			// The cell 1 is no beach.
			three, c7 := impl.FindShare(s, cell, 0, 1, hour, hour)
			same(t, "codes", "2 2 2 2 2 2 2", c1, c2, c3, c4, c5, c6, c7)
			same(t, "zeros", "true true 0 0 0 {0 0} {0 0} {0 0}", in == [36]int64{}, by == [36]int64{}, reached, len(list), seed, one, two, three)
		}
	}
	for _, hour := range []int64{1, 14} {
		_, c1 := impl.StrandsIn(s, 0, 0, hour)
		_, c2 := impl.StrandedBy(s, 0, 0, hour)
		_, c3 := impl.ReachedBeaches(s, 0, 0, hour)
		_, _, c4 := impl.FindsOfBottles(s, 0, 0, hour, 5, 1)
		_, c5 := impl.FindShare(s, 0, 0, 2, hour, hour)
		same(t, "limits", "0 0 0 0 0", c1, c2, c3, c4, c5)
	}
}

func TestBeachErrors(t *testing.T) {
	s := eastward(t)
	for _, cell := range []int64{0, 2} {
		for _, beach := range append(badCells, impl.Lost) {
			_, c1 := impl.FindShare(s, cell, 0, beach, 1, 2)
			_, c2 := impl.EarliestFind(s, cell, 0, beach)
			_, c3 := impl.CollectedAt(s, cell, 0, beach, 1, 1)
			_, c4 := impl.FindShare(s, cell, 0, beach, 2, 1)
			_, c5 := impl.CollectedAt(s, cell, 0, beach, 1, 0)
			same(t, "no cell", "2 2 2 2 2", c1, c2, c3, c4, c5)
		}
		for _, beach := range []int64{0, 1, 6, 7, 8} {
			share, c1 := impl.FindShare(s, cell, 0, beach, 1, 2)
			hour, c2 := impl.EarliestFind(s, cell, 0, beach)
			shares, c3 := impl.CollectedAt(s, cell, 0, beach, 1, 1)
			_, c4 := impl.FindShare(s, cell, 0, beach, 2, 1)
			_, c5 := impl.CollectedAt(s, cell, 0, beach, 1, 0)
			same(t, "water", "{0 0} 4 0 4 0 4 4 4", share, c1, hour, c2, len(shares), c3, c4, c5)
			_, c6 := impl.FindShare(s, cell, 2, beach, 1, 2)
			_, c7 := impl.EarliestFind(s, cell, 2, beach)
			_, c8 := impl.CollectedAt(s, cell, 2, beach, 1, 1)
			same(t, "water, but no tide", "2 2 2", c6, c7, c8)
		}
	}
	// No water is beside this land: it is one on which nothing strands.
	dry := still(t, 3, 1, bits(1, 2))
	_, c1 := impl.EarliestFind(dry, 0, 0, 2)
	share, c2 := impl.FindShare(dry, 0, 0, 2, 1, 14)
	can, c3 := impl.CanBeFound(dry, 0, 0, impl.Find{Beach: 2, Hour: 3})
	same(t, "inland", "6 {0 1} 0 false 0", c1, share, c2, can, c3)
}

func TestVisitErrors(t *testing.T) {
	s := eastward(t)
	list := []impl.Find{{Beach: 2, Hour: 1}}
	for _, every := range []int64{0, -1, 15, 256, 257, 1 << 32, 1<<32 + 1, math.MinInt64, math.MaxInt64} {
		seen, one := impl.SeenAtVisits(s, list, every)
		none, two := impl.SeenAtVisits(s, nil, every)
		same(t, "every", "0 2 0 2", len(seen), one, len(none), two)
		for _, visits := range []int64{0, 1, 14} {
			shares, three := impl.CollectedAt(s, 2, 0, 1, every, visits)
			same(t, "every, on land", "0 2", len(shares), three)
		}
		for name, bad := range badFinds() {
			_, code := impl.SeenAtVisits(s, bad, every)
			same(t, name, "1", code)
		}
	}
	for _, visits := range badHours {
		for _, every := range []int64{1, 14} {
			_, one := impl.CollectedAt(s, 0, 0, 2, every, visits)
			_, two := impl.CollectedAt(s, 2, 0, 1, every, visits)
			same(t, "visits", "2 2", one, two)
		}
	}
	for every := int64(1); every <= 14; every++ {
		for visits := int64(0); visits <= 14; visits++ {
			want := "0 4"
			if every*visits > 14 {
				want = "2 2"
			}
			_, one := impl.CollectedAt(s, 0, 0, 2, every, visits)
			_, two := impl.CollectedAt(s, 2, 0, 1, every, visits)
			same(t, "every and visits", want, one, two)
		}
	}
	// These products wrap around to 0.
	_, one := impl.CollectedAt(s, 0, 0, 2, 1<<32, 1<<32)
	_, two := impl.CollectedAt(s, 0, 0, 2, 8, 1<<61)
	same(t, "wraps around", "2 2", one, two)
}

func TestBottlesOfFindsErrors(t *testing.T) {
	s := eastward(t)
	for _, bottles := range append(badBottles, 1001, 2000) {
		for _, cell := range []int64{0, 2} {
			list, seed, code := impl.FindsOfBottles(s, cell, 0, 1, 5, bottles)
			same(t, "bottles", "0 0 2", len(list), seed, code)
		}
	}
	// A sea of water alone has no finds, of a thousand bottles either.
	list, _, code := impl.FindsOfBottles(tidal(t), 0, 0, 14, 5, 1000)
	same(t, "most", "0 0", len(list), code)
	// Many bottles strand, but the land is looked at first.
	list, seed, code := impl.FindsOfBottles(s, 2, 0, 14, 5, 1000)
	same(t, "land", "0 0 4", len(list), seed, code)
}

// TestFindsErrors gives finds that are not valid, together with other
// arguments that are beyond their ranges, or land.
func TestFindsErrors(t *testing.T) {
	s := eastward(t)
	good := []impl.Find{{Beach: 2, Hour: 1}}
	for name, list := range badFinds() {
		check := func(s impl.Sea) {
			t.Helper()
			for _, cell := range []int64{0, 2, 99} {
				indices, c1 := impl.ImpossibleFinds(s, cell, 9*cell, list)
				can, c2 := impl.CanBeFound(s, cell, 9*cell, list[len(list)-1])
				want := int64(impl.ErrInvalid)
				if impl.ValidFinds(s, list[len(list)-1:]) {
					_, want = impl.CanBeFound(s, cell, 9*cell, good[0])
				}
				same(t, name, "0 1 false true", len(indices), c1, can, c2 == want)
			}
			seen, c3 := impl.SeenAtVisits(s, list, 1)
			counts, c4 := impl.CountByBeach(s, list)
			beach, most, c5 := impl.BusiestBeach(s, list)
			sorted, c6 := impl.SortFinds(s, list)
			one, c7 := impl.MergeFinds(s, list, good)
			two, c8 := impl.MergeFinds(s, good, list)
			mean, c9 := impl.MeanHour(s, list)
			same(t, name, "1 1 1 1 1 1 1", c3, c4, c5, c6, c7, c8, c9)
			same(t, name, "0 true 0 0 0 0 0 {0 0} true", len(seen), counts == [36]int64{}, beach, most, len(sorted), len(one), len(two), mean, impl.FindsText(s, list) == "")
			// The list alone is too long, or both are: ErrInvalid is told.
			_, c10 := impl.MergeFinds(s, list, repeated(good[0], 60))
			_, c11 := impl.MergeFinds(s, repeated(good[0], 60), list)
			_, c12 := impl.MergeFinds(s, list, nil)
			same(t, name, "1 1 1", c10, c11, c12)
		}
		check(s)
		check(impl.Sea{})
	}
}

func TestFindsOfBadSeas(t *testing.T) {
	for name, bad := range badSeas(t) {
		for _, list := range [][]impl.Find{nil, {{Beach: 2, Hour: 1}}} {
			_, c1 := impl.ImpossibleFinds(bad, 99, 9, list)
			_, c2 := impl.SeenAtVisits(bad, list, 99)
			_, c3 := impl.CountByBeach(bad, list)
			_, _, c4 := impl.BusiestBeach(bad, list)
			_, c5 := impl.SortFinds(bad, list)
			_, c6 := impl.MergeFinds(bad, list, list)
			_, c7 := impl.MeanHour(bad, list)
			_, c8 := impl.ReadFinds(bad, "2 1\n")
			_, c9 := impl.ReadFinds(bad, "")
			_, c10 := impl.ReadFinds(bad, "no finds")
			same(t, name, "1 1 1 1 1 1 1 1 1 1", c1, c2, c3, c4, c5, c6, c7, c8, c9, c10)
		}
		_, c1 := impl.StrandsIn(bad, 99, 9, 99)
		_, c2 := impl.StrandedBy(bad, 99, 9, 99)
		_, c3 := impl.FindShare(bad, 99, 9, 99, 99, 99)
		_, c4 := impl.CanBeFound(bad, 99, 9, impl.Find{})
		_, c5 := impl.EarliestFind(bad, 99, 9, 99)
		_, c6 := impl.ReachedBeaches(bad, 99, 9, 99)
		_, _, c7 := impl.FindsOfBottles(bad, 99, 9, 99, 5, 0)
		_, c8 := impl.CollectedAt(bad, 99, 9, 99, 0, -1)
		same(t, name, "1 1 1 1 1 1 1 1 true", c1, c2, c3, c4, c5, c6, c7, c8, impl.FindsText(bad, nil) == "")
	}
}
