package tests

import (
	"math/big"
	"slices"
	"testing"

	"loop.example/g01300/impl"
)

func TestOriginsExample(t *testing.T) {
	s := eastward(t)
	back, c1 := impl.PartsBack(s, 2, impl.TdFlood, 2)
	first, c2 := impl.WeightsOf(s, []impl.Find{{Beach: 2, Hour: 1}}, impl.TdFlood)
	late := []impl.Find{{Beach: 2, Hour: 2}}
	second, c3 := impl.WeightsOf(s, late, impl.TdFlood)
	shares, c4 := impl.OriginShares(s, late, impl.TdFlood)
	path, parts, c5 := impl.LikeliestPath(s, 0, impl.TdFlood, 3, 2)
	count, c6 := impl.CountPaths(s, 0, impl.TdFlood, 3, 2)
	same(t, "example", "0 0 0 0 [0 1 2 2] 300 0 3 0", c1, c2, c3, c4, path, parts, c5, count, c6)
	if back != [36]int64{25, 95, 144} || first != [36]int64{1: 5} || second != [36]int64{25, 35} {
		t.Errorf("%v %v %v", back, first, second)
	}
	want := [36]impl.Share{}
	for cell := range want {
		want[cell] = impl.Share{P: 0, Q: 1}
	}
	want[0], want[1] = impl.Share{P: 5, Q: 12}, impl.Share{P: 7, Q: 12}
	if shares != want {
		t.Errorf("shares: %v", shares)
	}
}

func TestOriginsConstants(t *testing.T) {
	same(t, "limit", "16", impl.MaxAges)
}

// TestPartsBack follows a bottle from each cell of water forward, by hand.
func TestPartsBack(t *testing.T) {
	for i, s := range coastalSeas() {
		water, land := waterAndLand(s)
		beach, begin, hours := land[i%len(land)], i/2%2, i%15
		got, code := impl.PartsBack(s, beach, int64(begin), int64(hours))
		want := [36]int64{}
		want[beach] = power(hours)
		for _, cell := range water {
			x := impl.Spread{Begin: int8(begin), Bottles: 1}
			x.At[cell] = 1
			for range hours {
				x = hourByHand(s, x)
			}
			want[cell] = x.At[beach]
		}
		if got != want || code != impl.OK {
			t.Fatalf("%v to %d, %d, %d: %v %d, want %v", s, beach, begin, hours, got, code, want)
		}
	}
}

// TestPartsBackWritten has the beaches 0 and 4 in a row of water, on which
// flood goes to the west, and ebb to the east; the cell 5 is land behind one.
func TestPartsBackWritten(t *testing.T) {
	s := still(t, 6, 1, bits(0, 4, 5))
	for _, cell := range []int{1, 2, 3} {
		s.Tides[impl.TdFlood][cell] = impl.Chances{6, 0, 0, 0, 6}
		s.Tides[impl.TdEbb][cell] = impl.Chances{3, 0, 9, 0, 0}
	}
	for _, one := range []struct {
		beach, begin, hours int64
		want                [36]int64
	}{
		{0, impl.TdFlood, 0, [36]int64{1}},
		{0, impl.TdFlood, 1, [36]int64{12, 6}},
		{0, impl.TdEbb, 1, [36]int64{12}},
		{0, impl.TdFlood, 2, [36]int64{144, 72}},
		{0, impl.TdEbb, 2, [36]int64{144, 18}},
		{4, impl.TdEbb, 2, [36]int64{3: 108, 4: 144}},
		{4, impl.TdFlood, 2, [36]int64{3: 54, 4: 144}},
		{5, impl.TdEbb, 2, [36]int64{5: 144}},
		{5, impl.TdEbb, 14, [36]int64{5: power(14)}},
	} {
		got, code := impl.PartsBack(s, one.beach, one.begin, one.hours)
		if got != one.want || code != impl.OK {
			t.Errorf("to %d, %d, %d: %v %d, want %v", one.beach, one.begin, one.hours, got, code, one.want)
		}
	}
	// Land alone: all of it is only where it is.
	dry := still(t, 2, 2, bits(0, 1, 6, 7))
	got, code := impl.PartsBack(dry, 7, impl.TdEbb, 3)
	same(t, "dry", "true 0", got == [36]int64{7: 1728}, code)
}

func TestWeightsOf(t *testing.T) {
	some := 0
	for _, s := range coastalSeas() {
		for _, list := range youngFinds(s) {
			for begin := range int64(2) {
				got, code := impl.WeightsOf(s, list, begin)
				want := weightsByHand(s, list, begin)
				if got != want || code != impl.OK {
					t.Fatalf("%v, %v, %d: %v %d, want %v", s, list, begin, got, code, want)
				}
				if len(list) > 1 && want != [36]int64{} {
					some++
				}
			}
		}
	}
	if some < 100 {
		t.Errorf("only %d weights of several finds", some)
	}
}

// TestWeightsOfNone has no finds: all water has the weight 1.
func TestWeightsOfNone(t *testing.T) {
	s := eastward(t)
	weights, one := impl.WeightsOf(s, nil, impl.TdEbb)
	if weights != [36]int64{0: 1, 1: 1, 6: 1, 7: 1, 8: 1} || one != impl.OK {
		t.Errorf("%v %d", weights, one)
	}
	shares, two := impl.OriginShares(s, []impl.Find{}, impl.TdEbb)
	best, share, three := impl.LikeliestOrigin(s, nil, impl.TdEbb)
	common, four := impl.CommonOrigins(s, nil, impl.TdEbb)
	tide, five := impl.LikelierTide(s, nil)
	_, six := impl.OddFind(s, nil, impl.TdEbb)
	same(t, "none", "{1 5} {0 1} {1 5} 0 0 {1 5} 0 true 0 0 0 4", shares[0], shares[2], shares[8], two, best, share, three, common == bits(0, 1, 6, 7, 8), four, tide, five, six)
	// The cell 0 is not always the first one.
	ashore := still(t, 3, 1, bits(0))
	best, share, code := impl.LikeliestOrigin(ashore, nil, impl.TdFlood)
	same(t, "behind land", "1 {1 2} 0", best, share, code)
}

// TestWeightsOfDry has no water, and so no weights.
func TestWeightsOfDry(t *testing.T) {
	s := still(t, 2, 1, bits(0, 1))
	for _, list := range [][]impl.Find{nil, {{Beach: 1, Hour: 1}}, {{Beach: 1, Hour: 14}, {Beach: 0, Hour: 2}}} {
		weights, one := impl.WeightsOf(s, list, impl.TdFlood)
		shares, two := impl.OriginShares(s, list, impl.TdFlood)
		best, share, three := impl.LikeliestOrigin(s, list, impl.TdFlood)
		common, four := impl.CommonOrigins(s, list, impl.TdFlood)
		tide, five := impl.LikelierTide(s, list)
		odd, six := impl.OddFind(s, list, impl.TdFlood)
		same(t, "codes", "0 6 6 0 6 6", one, two, three, four, five, six)
		same(t, "zeros", "true true 0 {0 0} 0 0 0", weights == [36]int64{}, shares == [36]impl.Share{}, best, share, common, tide, odd)
	}
}

// TestWeightsOfMost has the greatest weights: all parts of 16 hours, of one
// cell, and of all cells that there can be.
func TestWeightsOfMost(t *testing.T) {
	s := still(t, 6, 6, 0)
	for cell := range 36 {
		if cell%2 == 1 {
			s.Land |= bits(cell)
			s.Tides[0][cell], s.Tides[1][cell] = impl.Chances{}, impl.Chances{}
			continue
		}
		s.Tides[0][cell] = impl.Chances{0, 0, 12, 0, 0}
		s.Tides[1][cell] = impl.Chances{12, 0, 0, 0, 0}
	}
	most := power(16)
	weights, code := impl.WeightsOf(s, repeated(impl.Find{Beach: 5, Hour: 1}, 16), impl.TdFlood)
	if weights != [36]int64{4: most} || code != impl.OK {
		t.Errorf("%v %d", weights, code)
	}
	weights, code = impl.WeightsOf(s, []impl.Find{{Beach: 5, Hour: 14}, {Beach: 5, Hour: 2}}, impl.TdEbb)
	same(t, "other hours", "true 0", weights == [36]int64{}, code)
	weights, code = impl.WeightsOf(s, repeated(impl.Find{Beach: 5, Hour: 2}, 8), impl.TdEbb)
	same(t, "behind an hour", "true 0", weights == [36]int64{4: most}, code)
	// Two cells send all of theirs to the cell 1 in an hour.
	s.Tides[0][2] = impl.Chances{0, 0, 0, 0, 12}
	shares, code := impl.OriginShares(s, repeated(impl.Find{Beach: 1, Hour: 1}, 16), impl.TdFlood)
	same(t, "two", "{1 2} {1 2} {0 1} 0", shares[0], shares[2], shares[4], code)
}

func TestOriginShares(t *testing.T) {
	found := 0
	for _, s := range coastalSeas() {
		for i, list := range youngFinds(s) {
			begin := int64(i % 2)
			weights := weightsByHand(s, list, begin)
			all := sumByHand(weights)
			shares, one := impl.OriginShares(s, list, begin)
			best, share, two := impl.LikeliestOrigin(s, list, begin)
			if all == 0 {
				same(t, "none", "true 6 0 {0 0} 6", shares == [36]impl.Share{}, one, best, share, two)
				continue
			}
			found++
			same(t, "codes", "0 0", one, two)
			for cell, weight := range weights {
				if fractionOf(t, shares[cell]).Cmp(big.NewRat(weight, all)) != 0 {
					t.Fatalf("%v, %v: %v at %d, want %d / %d", s, list, shares[cell], cell, weight, all)
				}
			}
			want := slices.Index(weights[:], slices.Max(weights[:]))
			if best != int64(want) || share != shares[want] {
				t.Fatalf("%v, %v: likeliest %d %v, want %d %v", s, list, best, share, want, shares[want])
			}
		}
	}
	if found < 300 {
		t.Errorf("only %d finds have shares", found)
	}
}

// TestLikeliestOriginEqual has several cells with the greatest weight.
func TestLikeliestOriginEqual(t *testing.T) {
	s := still(t, 3, 3, bits(7))
	for _, one := range []struct {
		cell int
		c    impl.Chances
	}{
		{1, impl.Chances{8, 0, 0, 4, 0}},
		{6, impl.Chances{8, 0, 4, 0, 0}},
		{8, impl.Chances{7, 0, 0, 0, 5}},
		{13, impl.Chances{7, 5, 0, 0, 0}},
	} {
		s.Tides[impl.TdFlood][one.cell] = one.c
	}
	best, share, code := impl.LikeliestOrigin(s, []impl.Find{{Beach: 7, Hour: 1}}, impl.TdFlood)
	same(t, "two of four", "8 {5 18} 0", best, share, code)
	best, share, code = impl.LikeliestOrigin(s, repeated(impl.Find{Beach: 7, Hour: 1}, 2), impl.TdFlood)
	same(t, "twice", "8 {25 82} 0", best, share, code)
	common, code := impl.CommonOrigins(s, repeated(impl.Find{Beach: 7, Hour: 1}, 2), impl.TdFlood)
	same(t, "common", "true 0", common == bits(1, 6, 8, 13), code)
	common, code = impl.CommonOrigins(s, repeated(impl.Find{Beach: 7, Hour: 1}, 2), impl.TdEbb)
	same(t, "by ebb", "0 0", common, code)
}

func TestCommonOrigins(t *testing.T) {
	for _, s := range coastalSeas() {
		for i, list := range youngFinds(s) {
			begin := int64(i % 2)
			var want uint64
			for cell, weight := range weightsByHand(s, list, begin) {
				if weight > 0 {
					want |= bits(cell)
				}
			}
			got, code := impl.CommonOrigins(s, list, begin)
			if got != want || code != impl.OK {
				t.Fatalf("%v, %v: %d %d, want %d", s, list, got, code, want)
			}
		}
	}
}

func TestLikelierTide(t *testing.T) {
	times := map[string]int{}
	for _, s := range coastalSeas() {
		for _, list := range youngFinds(s) {
			flood := sumByHand(weightsByHand(s, list, impl.TdFlood))
			ebb := sumByHand(weightsByHand(s, list, impl.TdEbb))
			want := "0 0"
			switch {
			case flood == 0 && ebb == 0:
				want = "0 6"
			case ebb > flood:
				want = "1 0"
			case ebb == flood:
				times["equal"]++
			}
			times[want]++
			tide, code := impl.LikelierTide(s, list)
			same(t, "tide", want, tide, code)
		}
	}
	for _, want := range []string{"0 0", "1 0", "0 6", "equal"} {
		if times[want] < 20 {
			t.Errorf("%s only %d times", want, times[want])
		}
	}
}

// TestLikelierTideWritten has one cell of water, on which both tides are
// different.
func TestLikelierTideWritten(t *testing.T) {
	s := still(t, 3, 1, bits(0, 2))
	s.Tides[impl.TdFlood][1] = impl.Chances{7, 0, 5, 0, 0}
	s.Tides[impl.TdEbb][1] = impl.Chances{6, 0, 4, 0, 2}
	east, west := impl.Find{Beach: 2, Hour: 1}, impl.Find{Beach: 0, Hour: 1}
	for _, one := range []struct {
		list []impl.Find
		want string
	}{
		{[]impl.Find{east}, "0 0"},
		{[]impl.Find{west}, "1 0"},
		{[]impl.Find{east, west}, "1 0"},
		{[]impl.Find{{Beach: 0, Hour: 2}}, "0 0"},
		// 7 * 4 parts by flood are less than 6 * 5 by ebb.
		{[]impl.Find{{Beach: 2, Hour: 2}}, "1 0"},
		{nil, "0 0"},
		// No cell has both in the same tide.
		{[]impl.Find{west, {Beach: 0, Hour: 2}}, "0 6"},
	} {
		tide, code := impl.LikelierTide(s, one.list)
		same(t, "tide", one.want, tide, code)
	}
	equal, _ := impl.WithCurrent(still(t, 3, 1, bits(0, 2)), impl.WyEast, 6)
	tide, code := impl.LikelierTide(equal, []impl.Find{east})
	same(t, "equal", "0 0", tide, code)
}

// oddByHand looks for the first find without which the others can be.
func oddByHand(s impl.Sea, list []impl.Find, begin int64) (int64, int64) {
	if sumByHand(weightsByHand(s, list, begin)) > 0 {
		return 0, impl.ErrState
	}
	for i := range list {
		others := append(slices.Clone(list[:i]), list[i+1:]...)
		if sumByHand(weightsByHand(s, others, begin)) > 0 {
			return int64(i), impl.OK
		}
	}
	return 0, impl.ErrNotFound
}

func TestOddFind(t *testing.T) {
	times := map[int64]int{}
	for _, s := range coastalSeas() {
		for i, list := range youngFinds(s) {
			begin := int64(i % 2)
			odd, code := impl.OddFind(s, list, begin)
			want, wantCode := oddByHand(s, list, begin)
			if odd != want || code != wantCode {
				t.Fatalf("%v, %v, %d: %d %d, want %d %d", s, list, begin, odd, code, want, wantCode)
			}
			times[code]++
			if odd > 0 {
				times[-odd]++
			}
		}
	}
	if times[impl.OK] < 100 || times[impl.ErrState] < 100 || times[impl.ErrNotFound] < 100 || times[-1] < 10 || times[-2] < 5 {
		t.Errorf("too few of a kind: %v", times)
	}
}

func TestOddFindWritten(t *testing.T) {
	s := withIsland(t)
	good, late, never := impl.Find{Beach: 2, Hour: 1}, impl.Find{Beach: 2, Hour: 2}, impl.Find{Beach: 12, Hour: 1}
	for _, one := range []struct {
		list []impl.Find
		want string
	}{
		{[]impl.Find{never}, "0 0"},
		{[]impl.Find{good, never}, "1 0"},
		{[]impl.Find{never, late, good}, "0 0"},
		{[]impl.Find{good, late, never}, "2 0"},
		{[]impl.Find{good, never, late, good}, "1 0"},
		{[]impl.Find{never, never}, "0 6"},
		{[]impl.Find{good, never, never}, "0 6"},
		{[]impl.Find{good, late}, "0 4"},
		{nil, "0 4"},
	} {
		odd, code := impl.OddFind(s, one.list, impl.TdFlood)
		same(t, "odd", one.want, odd, code)
	}
	// Each of the two can be, but not of one cell: without the first one, the
	// other can.
	apart := still(t, 5, 1, bits(0, 4))
	apart.Tides[0][1] = impl.Chances{0, 0, 0, 0, 12}
	apart.Tides[0][3] = impl.Chances{0, 0, 12, 0, 0}
	odd, code := impl.OddFind(apart, []impl.Find{{Beach: 0, Hour: 1}, {Beach: 4, Hour: 1}}, impl.TdFlood)
	same(t, "apart", "0 0", odd, code)
	odd, code = impl.OddFind(apart, []impl.Find{{Beach: 0, Hour: 1}, {Beach: 4, Hour: 1}, {Beach: 0, Hour: 1}}, impl.TdFlood)
	same(t, "two against one", "1 0", odd, code)
}
