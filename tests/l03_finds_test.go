package tests

import (
	"slices"
	"testing"

	"loop.example/g01300/impl"
)

func TestFindsExample(t *testing.T) {
	s := eastward(t)
	second, c1 := impl.StrandsIn(s, 0, impl.TdFlood, 2)
	first, c2 := impl.StrandsIn(s, 0, impl.TdFlood, 1)
	if second != [36]int64{2: 25} || first != [36]int64{} {
		t.Errorf("strands: %v %v", second, first)
	}
	hour, c3 := impl.EarliestFind(s, 0, impl.TdFlood, 2)
	can, c4 := impl.CanBeFound(s, 0, impl.TdFlood, impl.Find{Beach: 2, Hour: 1})
	share, c5 := impl.FindShare(s, 0, impl.TdFlood, 2, 1, 2)
	seen, c6 := impl.SeenAtVisits(s, []impl.Find{{Beach: 2, Hour: 1}}, 2)
	same(t, "example", "0 0 2 0 false 0 {25 144} 0 [{2 2}] 0", c1, c2, hour, c3, can, c4, share, c5, seen, c6)
}

func TestFindsConstants(t *testing.T) {
	same(t, "limits", "60 14", impl.MaxFinds, impl.MaxEvery)
}

func TestValidFinds(t *testing.T) {
	for _, s := range coastalSeas() {
		for _, list := range manyFinds(s) {
			if !impl.ValidFinds(s, list) {
				t.Fatalf("%v are valid for %v", list, s)
			}
		}
	}
	s := eastward(t)
	for name, list := range badFinds() {
		if impl.ValidFinds(s, list) {
			t.Errorf("%s: are not valid", name)
		}
	}
	for _, list := range [][]impl.Find{{{Beach: 2, Hour: 1}}, {{Beach: 2, Hour: 14}}, repeated(impl.Find{Beach: 2, Hour: 14}, 60)} {
		if !impl.ValidFinds(s, list) {
			t.Errorf("%v are valid", list)
		}
	}
	// No water is beside the cell 0 here: it is land, but nothing strands on it.
	dry := still(t, 2, 1, bits(0, 1))
	if !impl.ValidFinds(dry, []impl.Find{{Beach: 0, Hour: 1}}) || !impl.ValidFinds(still(t, 2, 1, 0), nil) {
		t.Error("finds on any land, and no finds, are valid")
	}
	for name, bad := range badSeas(t) {
		if impl.ValidFinds(bad, nil) || impl.ValidFinds(bad, []impl.Find{{Beach: 2, Hour: 1}}) {
			t.Errorf("%s: no finds are valid for it", name)
		}
	}
}

func TestSameFinds(t *testing.T) {
	list := []impl.Find{{Beach: 2, Hour: 1}, {Beach: -7, Hour: 99}}
	for _, one := range []struct {
		other []impl.Find
		want  bool
	}{
		{[]impl.Find{{Beach: 2, Hour: 1}, {Beach: -7, Hour: 99}}, true},
		{[]impl.Find{{Beach: -7, Hour: 99}, {Beach: 2, Hour: 1}}, false},
		{[]impl.Find{{Beach: 2, Hour: 1}}, false},
		{[]impl.Find{{Beach: 2, Hour: 1}, {Beach: -7, Hour: 98}}, false},
		{[]impl.Find{{Beach: 3, Hour: 1}, {Beach: -7, Hour: 99}}, false},
		{[]impl.Find{{Beach: 1, Hour: 2}, {Beach: -7, Hour: 99}}, false},
		{append(slices.Clone(list), impl.Find{}), false},
		{nil, false},
	} {
		if impl.SameFinds(list, one.other) != one.want || impl.SameFinds(one.other, list) != one.want {
			t.Errorf("%v and %v: %v is wrong", list, one.other, !one.want)
		}
	}
	if !impl.SameFinds(nil, []impl.Find{}) || !impl.SameFinds(nil, nil) || !impl.SameFinds(list, list) {
		t.Error("lists are as themselves, and all empty lists are the same")
	}
	long := repeated(impl.Find{Beach: 2, Hour: 1}, 400000)
	other := slices.Clone(long)
	other[len(other)-1].Hour = 2
	if impl.SameFinds(long, other) || !impl.SameFinds(long, slices.Clone(long)) {
		t.Error("long lists are compared to their ends")
	}
}

func TestStrandsIn(t *testing.T) {
	for i, s := range coastalSeas() {
		water, _ := waterAndLand(s)
		for hour := range 14 {
			cell, begin := water[(i+hour)%len(water)], int64(i+hour/2)%2
			got, code := impl.StrandsIn(s, cell, begin, int64(hour+1))
			if want := strandsByHand(s, cell, begin, hour+1); got != want || code != impl.OK {
				t.Fatalf("%v, %d, %d, %d: %v %d, want %v", s, cell, begin, hour+1, got, code, want)
			}
			got, code = impl.StrandedBy(s, cell, begin, int64(hour+1))
			if want := strandedByHand(s, cell, begin, 1, hour+1); got != want || code != impl.OK {
				t.Fatalf("by: %v, %d, %d, %d: %v %d, want %v", s, cell, begin, hour+1, got, code, want)
			}
		}
	}
}

// TestStrandsInWritten has the cells 0 and 4 as beaches of a row of water, on
// which flood goes to the west, and ebb to the east.
func TestStrandsInWritten(t *testing.T) {
	s := still(t, 5, 1, bits(0, 4))
	for _, cell := range []int{1, 2, 3} {
		s.Tides[impl.TdFlood][cell] = impl.Chances{6, 0, 0, 0, 6}
		s.Tides[impl.TdEbb][cell] = impl.Chances{3, 0, 9, 0, 0}
	}
	for _, one := range []struct {
		cell, begin, hour int64
		in, by            string
	}{
		{1, impl.TdFlood, 1, "6 0", "6 0"},
		{1, impl.TdFlood, 2, "0 0", "72 0"},
		{1, impl.TdFlood, 3, "108 0", "972 0"},
		{1, impl.TdEbb, 1, "0 0", "0 0"},
		{1, impl.TdEbb, 2, "18 0", "18 0"},
		{3, impl.TdEbb, 1, "0 9", "0 9"},
		{3, impl.TdEbb, 2, "0 0", "0 108"},
		{3, impl.TdEbb, 3, "0 162", "0 1458"},
		{2, impl.TdFlood, 2, "0 0", "0 0"},
		{2, impl.TdFlood, 3, "108 0", "108 0"},
		{2, impl.TdFlood, 4, "0 2916", "1296 2916"},
	} {
		in, c1 := impl.StrandsIn(s, one.cell, one.begin, one.hour)
		by, c2 := impl.StrandedBy(s, one.cell, one.begin, one.hour)
		same(t, "in", one.in+" 0", in[0], in[4], c1)
		same(t, "by", one.by+" 0", by[0], by[4], c2)
	}
}

func TestFindShare(t *testing.T) {
	for i, s := range coastalSeas()[:60] {
		water, land := waterAndLand(s)
		cell, beach, begin := water[i%len(water)], land[i%len(land)], int64(i%2)
		for first := 1; first <= 14; first++ {
			for last := 1; last <= 14; last++ {
				share, code := impl.FindShare(s, cell, begin, beach, int64(first), int64(last))
				want := strandedByHand(s, cell, begin, first, last)[beach]
				if code != impl.OK || !isFraction(t, share, want, power(last)) {
					t.Fatalf("%v, %d on %d, %d to %d: %v %d, want %d", s, cell, beach, first, last, share, code, want)
				}
			}
		}
	}
	s := eastward(t)
	share, code := impl.FindShare(s, 1, impl.TdFlood, 2, 1, 1)
	same(t, "an hour", "{5 12} 0", share, code)
	share, code = impl.FindShare(s, 1, impl.TdFlood, 2, 2, 2)
	same(t, "the next hour", "{35 144} 0", share, code)
	for _, hours := range [][2]int64{{2, 1}, {14, 1}, {14, 13}} {
		share, code = impl.FindShare(s, 1, impl.TdFlood, 2, hours[0], hours[1])
		same(t, "first behind last", "{0 1} 0", share, code)
	}
}

// isFraction reports whether a share is part / all, without common divisors.
func isFraction(t *testing.T, x impl.Share, part, all int64) bool {
	t.Helper()
	return fractionOf(t, x).Cmp(fractionOf(t, lowest(part, all))) == 0
}

func lowest(part, all int64) impl.Share {
	a, b := all, part
	for b != 0 {
		a, b = b, a%b
	}
	return impl.Share{P: part / a, Q: all / a}
}

// TestWhatCanBe holds CanBeFound, EarliestFind, ImpossibleFinds and
// ReachedBeaches against what strands in each hour.
func TestWhatCanBe(t *testing.T) {
	for i, s := range coastalSeas() {
		water, land := waterAndLand(s)
		cell, begin := water[i%len(water)], int64(i/2%2)
		earliest := map[int64]int64{}
		for hour := 1; hour <= 14; hour++ {
			in := strandsByHand(s, cell, begin, hour)
			for _, beach := range land {
				can, code := impl.CanBeFound(s, cell, begin, impl.Find{Beach: int8(beach), Hour: int8(hour)})
				if can != (in[beach] > 0) || code != impl.OK {
					t.Fatalf("%v, %d: find on %d in %d: %v %d", s, cell, beach, hour, can, code)
				}
				if can && earliest[beach] == 0 {
					earliest[beach] = int64(hour)
				}
			}
			checkReached(t, s, cell, begin, int64(hour), earliest)
		}
		for _, beach := range land {
			hour, code := impl.EarliestFind(s, cell, begin, beach)
			want := int64(impl.OK)
			if earliest[beach] == 0 {
				want = impl.ErrNotFound
			}
			if hour != earliest[beach] || code != want {
				t.Fatalf("%v, %d: earliest on %d: %d %d, want %d", s, cell, beach, hour, code, earliest[beach])
			}
		}
		for _, list := range manyFinds(s) {
			checkImpossible(t, s, cell, begin, list)
		}
	}
}

func checkReached(t *testing.T, s impl.Sea, cell, begin, hour int64, earliest map[int64]int64) {
	t.Helper()
	var want uint64
	for beach := range earliest {
		if earliest[beach] > 0 {
			want |= 1 << beach
		}
	}
	reached, code := impl.ReachedBeaches(s, cell, begin, hour)
	if reached != want || code != impl.OK {
		t.Fatalf("%v, %d: reached by %d: %d %d, want %d", s, cell, hour, reached, code, want)
	}
}

func checkImpossible(t *testing.T, s impl.Sea, cell, begin int64, list []impl.Find) {
	t.Helper()
	var want []int64
	for i, f := range list {
		if strandsByHand(s, cell, begin, int(f.Hour))[f.Beach] == 0 {
			want = append(want, int64(i))
		}
	}
	indices, code := impl.ImpossibleFinds(s, cell, begin, list)
	if !slices.Equal(indices, want) || code != impl.OK {
		t.Fatalf("%v, %d, %v: impossible %v %d, want %v", s, cell, list, indices, code, want)
	}
}

// TestWhatCannotBe has a beach that is reached in even hours alone, and one
// that never is.
func TestWhatCannotBe(t *testing.T) {
	s := still(t, 4, 1, bits(2, 3))
	s.Tides[impl.TdEbb][0] = impl.Chances{4, 0, 8, 0, 0}
	s.Tides[impl.TdEbb][1] = impl.Chances{4, 0, 8, 0, 0}
	hour, code := impl.EarliestFind(s, 0, impl.TdFlood, 2)
	same(t, "by flood", "4 0", hour, code)
	hour, code = impl.EarliestFind(s, 0, impl.TdEbb, 2)
	same(t, "by ebb", "3 0", hour, code)
	hour, code = impl.EarliestFind(s, 0, impl.TdEbb, 3)
	same(t, "land behind the beach", "0 6", hour, code)
	list := []impl.Find{{Beach: 2, Hour: 1}, {Beach: 2, Hour: 2}, {Beach: 2, Hour: 4}, {Beach: 2, Hour: 5}, {Beach: 3, Hour: 4}, {Beach: 2, Hour: 14}, {Beach: 2, Hour: 13}, {Beach: 2, Hour: 1}}
	indices, code := impl.ImpossibleFinds(s, 0, impl.TdFlood, list)
	same(t, "impossible", "[0 1 3 4 6 7] 0", indices, code)
	for hours, want := range map[int64]uint64{1: 0, 3: 0, 4: 4, 5: 4, 14: 4} {
		reached, code := impl.ReachedBeaches(s, 0, impl.TdFlood, hours)
		same(t, "reached", "true 0", reached == want, code)
	}
	// The fourteenth hour is the last one, and a way of one part is a way.
	long := still(t, 6, 3, bits(14))
	path := []int{0, 1, 2, 3, 4, 5, 11, 10, 9, 8, 7, 6, 12, 13}
	for i, cell := range path {
		way := impl.WyEast
		switch {
		case cell == 5 || cell == 6:
			way = impl.WySouth
		case cell > 6 && cell < 12:
			way = impl.WyWest
		}
		c := impl.Chances{11}
		c[way] = 1
		long.Tides[i%2][cell] = c
	}
	hour, code = impl.EarliestFind(long, 0, impl.TdFlood, 14)
	same(t, "last hour", "14 0", hour, code)
	hour, code = impl.EarliestFind(long, 0, impl.TdEbb, 14)
	same(t, "too late", "0 6", hour, code)
	in, code := impl.StrandsIn(long, 0, impl.TdFlood, 14)
	same(t, "one part", "1 0", in[14], code)
}

func TestFindsOfBottles(t *testing.T) {
	for i, s := range coastalSeas() {
		water, _ := waterAndLand(s)
		cell, begin, hours := int(water[i%len(water)]), i%2, 1+i%14
		var want []impl.Find
		behind := uint32(i * 2654435761)
		start := behind
		for range 60 {
			var path []int64
			path, behind = bottleByHand(s, cell, begin, hours, behind)
			end := path[hours]
			if end >= 0 && s.Land&bits(int(end)) != 0 {
				want = append(want, impl.Find{Beach: int8(end), Hour: int8(slices.Index(path, end))})
			}
		}
		list, seed, code := impl.FindsOfBottles(s, int64(cell), int64(begin), int64(hours), start, 60)
		if !slices.Equal(list, want) || seed != behind || code != impl.OK {
			t.Fatalf("%v, %d: %v %d %d, want %v %d", s, cell, list, seed, code, want, behind)
		}
	}
}

func TestFindsOfBottlesWritten(t *testing.T) {
	s := eastward(t)
	// These are the paths that TestDriftBottleWritten writes out.
	list, seed, code := impl.FindsOfBottles(s, 0, impl.TdFlood, 6, 0, 1)
	same(t, "late", "[{2 6}] 2670642822 0", list, seed, code)
	list, seed, code = impl.FindsOfBottles(s, 0, impl.TdFlood, 6, 1, 1)
	same(t, "early", "[{2 3}] 2165703038 0", list, seed, code)
	list, seed, code = impl.FindsOfBottles(s, 7, impl.TdFlood, 6, 1, 1)
	same(t, "lost", "[] 2165703038 0", list, seed, code)
	list, seed, code = impl.FindsOfBottles(s, 0, impl.TdFlood, 5, 0, 1)
	same(t, "afloat", "0 0", len(list), code)
}

// TestFindsOfBottlesLimit has all bottles strand in the first hour.
func TestFindsOfBottlesLimit(t *testing.T) {
	s, _ := impl.WithCurrent(still(t, 2, 1, bits(1)), impl.WyEast, 12)
	list, seed, code := impl.FindsOfBottles(s, 0, impl.TdEbb, 14, 5, 60)
	same(t, "60", "60 0", len(list), code)
	behind := uint32(5)
	for range 60 {
		behind = 1664525*behind + 1013904223
	}
	if seed != behind || !slices.Equal(list, repeated(impl.Find{Beach: 1, Hour: 1}, 60)) {
		t.Errorf("%v %d", list, seed)
	}
	for _, bottles := range []int64{61, 62, 1000} {
		list, seed, code = impl.FindsOfBottles(s, 0, impl.TdEbb, 14, 5, bottles)
		same(t, "more", "0 0 3", len(list), seed, code)
	}
	// A thousand bottles are no error if few of them strand.
	calm := still(t, 2, 1, bits(1))
	list, _, code = impl.FindsOfBottles(calm, 0, impl.TdEbb, 14, 5, 1000)
	same(t, "calm", "0 0", len(list), code)
}
