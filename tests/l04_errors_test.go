package tests

import (
	"math"
	"testing"

	"loop.example/g01300/impl"
)

// codesOfTides returns the codes of all functions of chapter 4 with a tide,
// the other arguments of which are good, in a fixed order.
func codesOfTides(s impl.Sea, begin int64) []any {
	list := []impl.Find{{Beach: 2, Hour: 1}}
	b := impl.Bounds{{2: 1}}
	_, c1 := impl.PartsBack(s, 2, begin, 2)
	_, c2 := impl.WeightsOf(s, list, begin)
	_, c3 := impl.OriginShares(s, list, begin)
	_, _, c4 := impl.LikeliestOrigin(s, list, begin)
	_, c5 := impl.CommonOrigins(s, list, begin)
	_, c6 := impl.OddFind(s, append(list, impl.Find{Beach: 12, Hour: 1}), begin)
	_, c7 := impl.PathParts(s, []int64{0, 1}, begin)
	_, _, c8 := impl.LikeliestPath(s, 0, begin, 1, 1)
	_, c9 := impl.CountPaths(s, 0, begin, 1, 1)
	_, c10 := impl.BoundsFor(s, 2, begin, 1)
	_, c11 := impl.CheckBounds(s, 2, begin, b)
	_, c12 := impl.ProvedBound(s, 2, 2, begin, b)
	return []any{c1, c2, c3, c4, c5, c6, c7, c8, c9, c10, c11, c12}
}

func TestOriginTides(t *testing.T) {
	s := withIsland(t)
	same(t, "flood", "0 0 0 0 0 0 0 0 0 0 0 0", codesOfTides(s, impl.TdFlood)...)
	same(t, "ebb", "0 0 0 0 0 0 0 0 0 0 0 0", codesOfTides(s, impl.TdEbb)...)
	for _, tide := range badTides {
		same(t, "no tide", "2 2 2 2 2 2 2 2 2 2 2 2", codesOfTides(s, tide)...)
	}
}

func TestOriginsOfBadSeas(t *testing.T) {
	bad := badSeas(t)
	for name, s := range bad {
		for _, tide := range []int64{impl.TdFlood, 9} {
			same(t, name, "1 1 1 1 1 1 1 1 1 1 1 1", codesOfTides(s, tide)...)
		}
		_, c1 := impl.PartsBack(s, 99, 9, 99)
		_, c2 := impl.WeightsOf(s, nil, 9)
		_, c3 := impl.LikelierTide(s, nil)
		_, c4 := impl.LikelierTide(s, []impl.Find{{Beach: 2, Hour: 1}})
		_, c5 := impl.PathParts(s, nil, 9)
		_, _, c6 := impl.LikeliestPath(s, 99, 9, 99, 99)
		_, c7 := impl.CountPaths(s, 99, 9, 99, 99)
		_, c8 := impl.BoundsFor(s, 99, 9, 99)
		proof, c9 := impl.CheckBounds(s, 99, 9, nil)
		_, c10 := impl.ProvedBound(s, 99, 99, 9, nil)
		same(t, name, "1 1 1 1 1 1 1 1 false 1 1", c1, c2, c3, c4, c5, c6, c7, c8, proof, c9, c10)
	}
}

// TestOriginCells gives numbers that are no cells, together with those that
// are, and with states and proofs that are bad as well.
func TestOriginCells(t *testing.T) {
	s := eastward(t)
	good := boundsBy(t, s, 2, impl.TdFlood, 3)
	for _, cell := range append(badCells, impl.Lost) {
		back, c1 := impl.PartsBack(s, cell, 0, 2)
		one, parts, c2 := impl.LikeliestPath(s, cell, 0, 2, 2)
		two, _, c3 := impl.LikeliestPath(s, 0, 0, 2, cell)
		_, _, c4 := impl.LikeliestPath(s, cell, 0, 0, cell)
		_, c5 := impl.CountPaths(s, cell, 0, 2, 2)
		_, c6 := impl.CountPaths(s, 0, 0, 2, cell)
		b, c7 := impl.BoundsFor(s, cell, 0, 2)
		proof, c8 := impl.CheckBounds(s, cell, 0, good)
		_, c9 := impl.CheckBounds(s, cell, 0, nil)
		bound, c10 := impl.ProvedBound(s, cell, 2, 0, good)
		_, c11 := impl.ProvedBound(s, 0, cell, 0, good)
		_, c12 := impl.ProvedBound(s, cell, 2, 0, nil)
		_, c13 := impl.ProvedBound(s, 0, cell, 0, nil)
		same(t, "codes", "2 2 2 2 2 2 2 2 2 2 2 2 2", c1, c2, c3, c4, c5, c6, c7, c8, c9, c10, c11, c12, c13)
		same(t, "zeros", "true 0 0 0 0 false 0", back == [36]int64{}, len(one), parts, len(two), len(b), proof, bound)
		for _, path := range [][]int64{{cell}, {0, cell}, {cell, 0}, {0, 1, 2, cell}, {0, 2, cell}, {0, cell, 2}} {
			parts, code := impl.PathParts(s, path, 0)
			same(t, "path", "0 2", parts, code)
		}
	}
	for _, cell := range []int64{0, 1, 6, 7, 8} {
		back, c1 := impl.PartsBack(s, cell, 0, 2)
		_, c2 := impl.PartsBack(s, cell, 2, 2)
		_, c3 := impl.PartsBack(s, cell, 0, 15)
		same(t, "water", "true 4 2 2", back == [36]int64{}, c1, c2, c3)
	}
}

func TestOriginHours(t *testing.T) {
	s := eastward(t)
	for _, hours := range badHours {
		for _, cell := range []int64{0, 2, 8} {
			back, c1 := impl.PartsBack(s, cell, 0, hours)
			path, parts, c2 := impl.LikeliestPath(s, cell, 0, hours, 2)
			count, c3 := impl.CountPaths(s, cell, 0, hours, 2)
			b, c4 := impl.BoundsFor(s, cell, 0, hours)
			same(t, "codes", "2 2 2 2", c1, c2, c3, c4)
			same(t, "zeros", "true 0 0 0 0", back == [36]int64{}, len(path), parts, count, len(b))
		}
	}
	for _, hours := range []int64{0, 14} {
		_, c1 := impl.PartsBack(s, 2, 1, hours)
		_, _, c2 := impl.LikeliestPath(s, 2, 1, hours, 2)
		_, c3 := impl.CountPaths(s, 0, 1, hours, 2)
		b, c4 := impl.BoundsFor(s, 2, 1, hours)
		same(t, "limits", "0 0 0 0 true", c1, c2, c3, c4, int64(len(b)) == hours+1)
	}
}

// codesOfFinds returns the codes of all functions of chapter 4 with finds, and
// fails if there is a result beside one.
func codesOfFinds(t *testing.T, s impl.Sea, list []impl.Find, begin int64) []any {
	t.Helper()
	weights, c1 := impl.WeightsOf(s, list, begin)
	shares, c2 := impl.OriginShares(s, list, begin)
	best, share, c3 := impl.LikeliestOrigin(s, list, begin)
	common, c4 := impl.CommonOrigins(s, list, begin)
	odd, c5 := impl.OddFind(s, list, begin)
	tide, c6 := impl.LikelierTide(s, list)
	if c1 != impl.OK {
		same(t, "zeros", "true true 0 {0 0} 0 0 0", weights == [36]int64{}, shares == [36]impl.Share{}, best, share, common, odd, tide)
	}
	return []any{c1, c2, c3, c4, c5, c6}
}

func TestOriginFinds(t *testing.T) {
	s := eastward(t)
	for name, list := range badFinds() {
		for _, begin := range []int64{0, 1, 2, -1} {
			same(t, name, "1 1 1 1 1 1", codesOfFinds(t, s, list, begin)...)
		}
		same(t, name, "1 1 1 1 1 1", codesOfFinds(t, impl.Sea{}, list, 0)...)
	}
	old := [][]impl.Find{
		repeated(impl.Find{Beach: 2, Hour: 1}, 17),
		repeated(impl.Find{Beach: 2, Hour: 14}, 60),
		{{Beach: 2, Hour: 14}, {Beach: 2, Hour: 3}},
		{{Beach: 2, Hour: 1}, {Beach: 2, Hour: 1}, {Beach: 2, Hour: 14}, {Beach: 2, Hour: 1}},
	}
	for _, list := range old {
		same(t, "too old", "3 3 3 3 3 3", codesOfFinds(t, s, list, 0)...)
		same(t, "too old, by ebb", "3 3 3 3 3 3", codesOfFinds(t, s, list, 1)...)
		same(t, "too old, without a tide", "2 2 2 2 2 3", codesOfFinds(t, s, list, 2)...)
		same(t, "too old, from a bad sea", "1 1 1 1 1 1", codesOfFinds(t, impl.Sea{Wide: 7}, list, 2)...)
		// Nothing strands, or there is no water at all: the limit is first.
		same(t, "too old, inland", "3 3 3 3 3 3", codesOfFinds(t, still(t, 4, 1, bits(2, 3)), list, 0)...)
		same(t, "too old, dry", "3 3 3 3 3 3", codesOfFinds(t, still(t, 3, 1, bits(0, 1, 2)), list, 0)...)
	}
	for _, list := range [][]impl.Find{repeated(impl.Find{Beach: 2, Hour: 1}, 16), {{Beach: 2, Hour: 14}, {Beach: 2, Hour: 2}}} {
		same(t, "just not too old", "0 0 0 0 4 0", codesOfFinds(t, s, list, 0)...)
	}
}

// TestOriginsOfNothing has finds that no cell has together, and one that none
// has alone.
func TestOriginsOfNothing(t *testing.T) {
	s := withIsland(t)
	never := []impl.Find{{Beach: 12, Hour: 1}}
	same(t, "never", "0 6 6 0 0 6", codesOfFinds(t, s, never, 0)...)
	same(t, "never twice", "0 6 6 0 6 6", codesOfFinds(t, s, append(never, never...), 0)...)
	shares, _ := impl.OriginShares(s, never, 0)
	best, share, _ := impl.LikeliestOrigin(s, never, 0)
	same(t, "zeros", "true 0 {0 0}", shares == [36]impl.Share{}, best, share)
}

func TestPathErrors(t *testing.T) {
	s := eastward(t)
	for _, path := range [][]int64{nil, {}, repeated64(2, 16), repeated64(0, 16), repeated64(2, 1000000), {0, impl.Lost}, {math.MinInt64}, {math.MaxInt64, 2}} {
		parts, one := impl.PathParts(s, path, 0)
		_, two := impl.PathParts(s, path, 2)
		_, three := impl.PathParts(impl.Sea{}, path, 2)
		same(t, "path", "0 2 2 1", parts, one, two, three)
	}
	// The range of all cells is looked at before any hour.
	_, one := impl.PathParts(s, []int64{0, 8, 3}, 0)
	_, two := impl.PathParts(s, []int64{0, 8, 1}, 0)
	_, three := impl.PathParts(s, []int64{0, 8, 1}, 2)
	_, four := impl.PathParts(s, repeated64(2, 15), 0)
	same(t, "order", "2 8 2 0", one, two, three, four)
}
