package tests

import (
	"math/rand"
	"slices"
	"testing"

	"loop.example/g01300/impl"
)

func TestSeenAtVisits(t *testing.T) {
	s := still(t, 3, 2, bits(2, 6))
	list := []impl.Find{{Beach: 6, Hour: 5}, {Beach: 2, Hour: 1}, {Beach: 6, Hour: 4}, {Beach: 2, Hour: 3}, {Beach: 6, Hour: 5}}
	for every, want := range map[int64]string{
		1:  "[{6 5} {2 1} {6 4} {2 3} {6 5}] 0",
		2:  "[{6 6} {2 2} {6 4} {2 4} {6 6}] 0",
		3:  "[{6 6} {2 3} {6 6} {2 3} {6 6}] 0",
		4:  "[{6 8} {2 4} {6 4} {2 4} {6 8}] 0",
		7:  "[{6 7} {2 7} {6 7} {2 7} {6 7}] 0",
		14: "[{6 14} {2 14} {6 14} {2 14} {6 14}] 0",
	} {
		seen, code := impl.SeenAtVisits(s, list, every)
		same(t, "seen", want, seen, code)
	}
	for every := 1; every <= 14; every++ {
		for hour := 1; hour <= 14; hour++ {
			visit := every
			for visit < hour {
				visit += every
			}
			seen, code := impl.SeenAtVisits(s, []impl.Find{{Beach: 2, Hour: 14}, {Beach: 6, Hour: int8(hour)}}[1:], int64(every))
			if visit > 14 {
				same(t, "too late", "0 2", len(seen), code)
				continue
			}
			if code != impl.OK || !slices.Equal(seen, []impl.Find{{Beach: 6, Hour: int8(visit)}}) {
				t.Errorf("hour %d, every %d: %v %d, want %d", hour, every, seen, code, visit)
			}
		}
	}
	for _, none := range [][]impl.Find{nil, {}} {
		seen, code := impl.SeenAtVisits(s, none, 9)
		same(t, "none", "0 0", len(seen), code)
	}
	late := append(repeated(impl.Find{Beach: 2, Hour: 10}, 3), impl.Find{Beach: 2, Hour: 11})
	seen, code := impl.SeenAtVisits(s, late, 5)
	same(t, "one of many is too late", "0 2", len(seen), code)
}

// TestCollectedAtWritten cleans a beach on which half of what is afloat
// strands in each hour.
func TestCollectedAtWritten(t *testing.T) {
	s, _ := impl.WithCurrent(still(t, 2, 1, bits(1)), impl.WyEast, 6)
	for _, one := range []struct {
		every, visits int64
		want          string
	}{
		{1, 4, "[{1 2} {1 4} {1 8} {1 16}] 0"},
		{2, 3, "[{3 4} {3 16} {3 64}] 0"},
		{3, 2, "[{7 8} {7 64}] 0"},
		{4, 1, "[{15 16}] 0"},
		{1, 0, "[] 0"},
		{14, 0, "[] 0"},
		{14, 1, "[{16383 16384}] 0"},
		{7, 2, "[{127 128} {127 16384}] 0"},
	} {
		shares, code := impl.CollectedAt(s, 0, impl.TdEbb, 1, one.every, one.visits)
		same(t, "collected", one.want, shares, code)
	}
	shares, code := impl.CollectedAt(s, 0, impl.TdEbb, 1, 1, 14)
	same(t, "most visits", "14 {1 16384} 0", len(shares), shares[13], code)
	// A beach that nothing reaches has nothing to collect.
	s = still(t, 3, 1, bits(1, 2))
	shares, code = impl.CollectedAt(s, 0, impl.TdEbb, 2, 1, 2)
	same(t, "nothing", "[{0 1} {0 1}] 0", shares, code)
}

func TestCollectedAt(t *testing.T) {
	for i, s := range coastalSeas()[:80] {
		water, land := waterAndLand(s)
		cell, beach, begin := water[i%len(water)], land[i%len(land)], int64(i%2)
		for every := 1; every <= 14; every++ {
			for visits := 0; every*visits <= 14; visits++ {
				shares, code := impl.CollectedAt(s, cell, begin, beach, int64(every), int64(visits))
				if code != impl.OK || len(shares) != visits {
					t.Fatalf("%d visits: %v %d", visits, shares, code)
				}
				for visit, share := range shares {
					first, last := visit*every+1, (visit+1)*every
					want := strandedByHand(s, cell, begin, first, last)[beach]
					if !isFraction(t, share, want, power(last)) {
						t.Fatalf("%v, %d on %d, every %d, visit %d: %v", s, cell, beach, every, visit, share)
					}
				}
			}
		}
	}
}

func TestCountByBeach(t *testing.T) {
	s := still(t, 3, 2, bits(2, 6, 8))
	list := []impl.Find{{Beach: 8, Hour: 1}, {Beach: 2, Hour: 1}, {Beach: 8, Hour: 1}, {Beach: 2, Hour: 9}}
	counts, code := impl.CountByBeach(s, list)
	if counts != [36]int64{2: 2, 8: 2} || code != impl.OK {
		t.Errorf("%v %d", counts, code)
	}
	beach, most, code := impl.BusiestBeach(s, list)
	same(t, "the least one", "2 2 0", beach, most, code)
	beach, most, code = impl.BusiestBeach(s, append(list, impl.Find{Beach: 8, Hour: 3}))
	same(t, "the one with most", "8 3 0", beach, most, code)
	beach, most, code = impl.BusiestBeach(s, list[:1])
	same(t, "one", "8 1 0", beach, most, code)
	beach, most, code = impl.BusiestBeach(still(t, 2, 1, 1), []impl.Find{{Beach: 0, Hour: 2}})
	same(t, "the cell 0", "0 1 0", beach, most, code)
	for _, none := range [][]impl.Find{nil, {}} {
		counts, one := impl.CountByBeach(s, none)
		beach, most, two := impl.BusiestBeach(s, none)
		same(t, "none", "true 0 0 0 6", counts == [36]int64{}, one, beach, most, two)
	}
	for _, s := range coastalSeas() {
		for _, list := range manyFinds(s) {
			checkCounts(t, s, list)
		}
	}
}

func checkCounts(t *testing.T, s impl.Sea, list []impl.Find) {
	t.Helper()
	var want [36]int64
	for _, f := range list {
		want[f.Beach]++
	}
	counts, code := impl.CountByBeach(s, list)
	if counts != want || code != impl.OK {
		t.Fatalf("%v: %v %d, want %v", list, counts, code, want)
	}
	if len(list) == 0 {
		return
	}
	most := slices.Max(want[:])
	beach, got, code := impl.BusiestBeach(s, list)
	if int(beach) != slices.Index(want[:], most) || got != most || code != impl.OK {
		t.Fatalf("%v: %d %d %d", list, beach, got, code)
	}
}

// sortByHand puts finds in order, by the document.
func sortByHand(list []impl.Find) []impl.Find {
	var sorted []impl.Find
	for hour := range 15 {
		for beach := range 36 {
			for _, f := range list {
				if int(f.Hour) == hour && int(f.Beach) == beach {
					sorted = append(sorted, f)
				}
			}
		}
	}
	return sorted
}

func TestSortFinds(t *testing.T) {
	s := still(t, 3, 2, bits(2, 6, 8))
	list := []impl.Find{{Beach: 8, Hour: 2}, {Beach: 2, Hour: 14}, {Beach: 6, Hour: 2}, {Beach: 8, Hour: 1}, {Beach: 6, Hour: 2}}
	sorted, code := impl.SortFinds(s, list)
	same(t, "sorted", "[{8 1} {6 2} {6 2} {8 2} {2 14}] 0", sorted, code)
	merged, code := impl.MergeFinds(s, list[3:], list[:2])
	same(t, "merged", "[{8 1} {6 2} {8 2} {2 14}] 0", merged, code)
	r := rand.New(rand.NewSource(8))
	for _, s := range coastalSeas() {
		for _, list := range manyFinds(s) {
			sorted, code := impl.SortFinds(s, list)
			if !slices.Equal(sorted, sortByHand(list)) || code != impl.OK {
				t.Fatalf("%v: %v %d", list, sorted, code)
			}
			// A list is cut anywhere: both parts are merged to the whole.
			cut := r.Intn(len(list) + 1)
			merged, code := impl.MergeFinds(s, list[cut:], list[:cut])
			if !slices.Equal(merged, sorted) || code != impl.OK {
				t.Fatalf("%v at %d: %v %d", list, cut, merged, code)
			}
		}
	}
}

func TestMergeFindsLimit(t *testing.T) {
	s := eastward(t)
	f := impl.Find{Beach: 2, Hour: 1}
	for _, many := range [][2]int{{60, 0}, {0, 60}, {30, 30}, {59, 1}, {0, 0}} {
		merged, code := impl.MergeFinds(s, repeated(f, many[0]), repeated(f, many[1]))
		same(t, "all", "true 0", slices.Equal(merged, repeated(f, many[0]+many[1])), code)
	}
	for _, many := range [][2]int{{60, 1}, {1, 60}, {30, 31}, {60, 60}} {
		merged, code := impl.MergeFinds(s, repeated(f, many[0]), repeated(f, many[1]))
		same(t, "too many", "0 3", len(merged), code)
	}
}

func TestMeanHour(t *testing.T) {
	s := eastward(t)
	for _, one := range []struct {
		hours []int8
		want  string
	}{
		{[]int8{3}, "{3 1} 0"},
		{[]int8{1, 2}, "{3 2} 0"},
		{[]int8{1, 3, 2}, "{2 1} 0"},
		{[]int8{14, 14, 13}, "{41 3} 0"},
		{[]int8{1, 1, 2, 2}, "{3 2} 0"},
		{nil, "{0 0} 6"},
	} {
		var list []impl.Find
		for _, hour := range one.hours {
			list = append(list, impl.Find{Beach: 2, Hour: hour})
		}
		mean, code := impl.MeanHour(s, list)
		same(t, "mean", one.want, mean, code)
	}
	mean, code := impl.MeanHour(s, repeated(impl.Find{Beach: 2, Hour: 14}, 60))
	same(t, "most", "{14 1} 0", mean, code)
}
