package tests

import (
	"math"
	"testing"

	"loop.example/g01300/impl"
)

// mapCall has the arguments of all functions of chapter 5 with a bottle.
type mapCall struct {
	a, b        impl.Sea
	cell, begin int64
	list        []impl.Find
	hour, bound int64
	most        int64
}

// goodMaps returns arguments with which all these functions return OK: the
// sea a has a gain in the hour 2, but the find is likelier with b.
func goodMaps(t *testing.T) mapCall {
	t.Helper()
	return mapCall{eastBy(t, 6), eastBy(t, 5), 0, impl.TdFlood, onTwo(10), 2, 8, 20}
}

// codesOfScores returns the codes of the functions with finds, first of those
// with one sea, and fails if there is a result beside one.
func codesOfScores(t *testing.T, m mapCall) []any {
	t.Helper()
	scores, c1 := impl.ScoresOf(m.a, m.cell, m.begin, m.list)
	score, c2 := impl.ScoreOf(m.a, m.cell, m.begin, m.list)
	worst, c3 := impl.WorstFind(m.a, m.cell, m.begin, m.list)
	better, by, c4 := impl.BetterMap(m.a, m.b, m.cell, m.begin, m.list)
	order, c5 := impl.RankMaps([]impl.Sea{m.a, m.b}, m.cell, m.begin, m.list)
	spot, best, c6 := impl.BestRepair(m.a, m.b, m.cell, m.begin, m.list)
	s, made, c7 := impl.RepairMap(m.a, m.b, m.cell, m.begin, m.list, m.most)
	checkZero(t, "ScoresOf", []any{scores, c1})
	checkZero(t, "ScoreOf", []any{score, c2})
	checkZero(t, "WorstFind", []any{worst, c3})
	checkZero(t, "BetterMap", []any{better, by, c4})
	checkZero(t, "RankMaps", []any{order, c5})
	checkZero(t, "BestRepair", []any{spot, best, c6})
	checkZero(t, "RepairMap", []any{s, made, c7})
	return []any{c1, c2, c3, c4, c5, c6, c7}
}

// codesOfDifferences returns the codes of the functions with two seas and an
// hour, and fails if there is a result beside one.
func codesOfDifferences(t *testing.T, m mapCall) []any {
	t.Helper()
	distance, c1 := impl.MapDistance(m.a, m.b, m.cell, m.begin, m.hour)
	f, by, c2 := impl.TellingFind(m.a, m.b, m.cell, m.begin, m.hour)
	gain, c3 := impl.ExpectedGain(m.a, m.b, m.cell, m.begin, m.hour)
	many, c4 := impl.FindsNeeded(m.a, m.b, m.cell, m.begin, m.hour, m.bound)
	checkZero(t, "MapDistance", []any{distance, c1})
	checkZero(t, "TellingFind", []any{f, by, c2})
	checkZero(t, "ExpectedGain", []any{gain, c3})
	checkZero(t, "FindsNeeded", []any{many, c4})
	return []any{c1, c2, c3, c4}
}

// codesOfSpots returns the codes of the functions with two seas alone.
func codesOfSpots(t *testing.T, a, b impl.Sea, x impl.Spot) []any {
	t.Helper()
	list, c1 := impl.DifferingSpots(a, b)
	s, c2 := impl.RepairAt(a, b, x)
	checkZero(t, "DifferingSpots", []any{list, c1})
	checkZero(t, "RepairAt", []any{s, c2})
	return []any{c1, c2}
}

func TestMapsOfGoodSeas(t *testing.T) {
	m := goodMaps(t)
	same(t, "scores", "0 0 0 0 0 0 0", codesOfScores(t, m)...)
	same(t, "differences", "0 0 0 0", codesOfDifferences(t, m)...)
	same(t, "spots", "0 0", codesOfSpots(t, m.a, m.b, impl.Spot{Tide: 1, Cell: 8})...)
	m.begin = impl.TdEbb
	same(t, "scores by ebb", "0 0 0 0 0 0 0", codesOfScores(t, m)...)
	same(t, "differences by ebb", "0 0 0 0", codesOfDifferences(t, m)...)
}

// TestMapsOfBadSeas has seas that are not valid, with good numbers and with
// bad ones, and with other coasts.
func TestMapsOfBadSeas(t *testing.T) {
	wrong := mapCall{cell: 99, begin: 9, list: onTwo(99), hour: 99, bound: -1, most: -1}
	for name, bad := range badSeas(t) {
		for _, m := range []mapCall{goodMaps(t), wrong, {most: 21}} {
			good := eastBy(t, 6)
			m.a, m.b = bad, good
			same(t, name, "1 1 1 1 1 1 1", codesOfScores(t, m)...)
			same(t, name, "1 1 1 1", codesOfDifferences(t, m)...)
			same(t, name, "1 1", codesOfSpots(t, bad, good, impl.Spot{Tide: 9, Cell: 99})...)
			m.b = bad
			same(t, name, "1 1 1 1 1 1 1", codesOfScores(t, m)...)
			same(t, name, "1 1 1 1", codesOfDifferences(t, m)...)
			m.a = good
			same(t, name, "1 1 1 1", codesOfScores(t, m)[3:]...)
			same(t, name, "1 1 1 1", codesOfDifferences(t, m)...)
			same(t, name, "1 1", codesOfSpots(t, good, bad, impl.Spot{Tide: 9, Cell: 99})...)
		}
	}
}

// TestMapsOfBadFinds has finds that are not valid: for both seas, or for the
// second one alone, which has other land.
func TestMapsOfBadFinds(t *testing.T) {
	for name, list := range badFinds() {
		m := goodMaps(t)
		m.list = list
		same(t, name, "1 1 1 1 1 1 1", codesOfScores(t, m)...)
		m.cell, m.begin, m.most = 99, 9, 99
		same(t, name, "1 1 1 1 1 1 1", codesOfScores(t, m)...)
		m.b = still(t, 2, 2, 0)
		same(t, name, "1 1 1 1 1 1 1", codesOfScores(t, m)...)
	}
	m := goodMaps(t)
	m.b = still(t, 3, 2, bits(8))
	same(t, "no find of the second sea", "0 0 0 1 1 1 1", codesOfScores(t, m)...)
	m.a, m.b = m.b, m.a
	same(t, "no find of the first sea", "1 1 1 1 1 1 1", codesOfScores(t, m)...)
}

// TestMapsOfOtherCoasts has seas that differ in more than their chances: this
// is looked at before all numbers.
func TestMapsOfOtherCoasts(t *testing.T) {
	for name, other := range map[string]impl.Sea{
		"more land":  still(t, 3, 2, bits(2, 8)),
		"wider":      still(t, 4, 2, bits(2)),
		"higher":     still(t, 3, 3, bits(2)),
		"lower":      still(t, 3, 1, bits(2)),
		"other land": still(t, 3, 2, bits(8)),
		"no land":    still(t, 3, 2, 0),
	} {
		for _, m := range []mapCall{goodMaps(t), {cell: 99, begin: 9, hour: 99, bound: -1, most: -1}, {cell: 2, hour: 2, bound: 1}, {cell: 8, hour: 1, bound: 1}} {
			m.a, m.b, m.list = eastBy(t, 6), other, nil
			same(t, name, "4 4 4 4", codesOfScores(t, m)[3:]...)
			same(t, name, "4 4 4 4", codesOfDifferences(t, m)...)
			for _, x := range spots(0, 0, 1, 2, 9, 99, 0, -1) {
				same(t, name, "4 4", codesOfSpots(t, m.a, other, x)...)
			}
			if other.Land&4 != 0 {
				m.list = onTwo(1)
				same(t, name, "4 4 4 4", codesOfScores(t, m)[3:]...)
			}
		}
	}
}

// TestMapNumbers has one number out of range, with others that are good, and
// in a cell of land.
func TestMapNumbers(t *testing.T) {
	for _, cell := range append(badCells, impl.Lost) {
		m := goodMaps(t)
		m.cell = cell
		same(t, "no cell", "2 2 2 2 2 2 2", codesOfScores(t, m)...)
		same(t, "no cell", "2 2 2 2", codesOfDifferences(t, m)...)
	}
	for _, cell := range []int64{0, 2, 8} {
		for _, begin := range badTides {
			m := goodMaps(t)
			m.cell, m.begin = cell, begin
			same(t, "no tide", "2 2 2 2 2 2 2", codesOfScores(t, m)...)
			same(t, "no tide", "2 2 2 2", codesOfDifferences(t, m)...)
		}
		for _, hour := range badFirstHours {
			m := goodMaps(t)
			m.cell, m.hour = cell, hour
			same(t, "no hour", "2 2 2 2", codesOfDifferences(t, m)...)
		}
		for _, bound := range []int64{0, -1, 1001, 1 << 32, math.MinInt64, math.MaxInt64} {
			m := goodMaps(t)
			m.cell, m.bound = cell, bound
			same(t, "no bound", "2", codesOfDifferences(t, m)[3])
		}
		for _, most := range []int64{-1, 21, 256, 1 << 32, math.MinInt64, math.MaxInt64} {
			m := goodMaps(t)
			m.cell, m.most = cell, most
			same(t, "no number of repairs", "2", codesOfScores(t, m)[6])
		}
	}
	m := goodMaps(t)
	m.cell = 2
	same(t, "land", "4 4 4 4 4 4 4", codesOfScores(t, m)...)
	same(t, "land", "4 4 4 4", codesOfDifferences(t, m)...)
	m.list, m.b = nil, m.a
	same(t, "land, with nothing to tell", "4 4 4 4 4 4 4", codesOfScores(t, m)...)
	same(t, "land, with nothing to tell", "4 4 4 4", codesOfDifferences(t, m)...)
	m.list = onTwo(1)
	same(t, "land, with a find that cannot be", "4 4 4 4 4 4 4", codesOfScores(t, m)...)
}

func TestMapLimits(t *testing.T) {
	m := goodMaps(t)
	for _, hour := range []int64{1, 14} {
		m.hour, m.bound = hour, 1000
		same(t, "hours", "0", codesOfDifferences(t, m)[0])
	}
	m.hour, m.bound, m.most = 2, 1, 0
	same(t, "limits", "0 0", codesOfDifferences(t, m)[3], codesOfScores(t, m)[6])
	m.list = repeated(m.list[0], 60)
	same(t, "60 finds", "0 0 0 0 0 0 0", codesOfScores(t, m)...)
}

// TestMapStates has what is looked at behind all numbers.
func TestMapStates(t *testing.T) {
	m := goodMaps(t)
	m.list = onTwo(10, 1)
	same(t, "a find that cannot be", "6 6 0 6 0 6 0", codesOfScores(t, m)...)
	m.list = nil
	same(t, "no finds", "0 0 6 0 0 6 0", codesOfScores(t, m)...)
	m.hour = 1
	same(t, "nothing on a beach", "0 6 0 8", codesOfDifferences(t, m)...)
	m = goodMaps(t)
	m.b, m.list = example(t), onTwo(2)
	same(t, "nothing with the other sea", "0 0 0 0 0 6 0", codesOfScores(t, m)...)
	same(t, "nothing with the other sea", "0 0 6 6", codesOfDifferences(t, m)...)
	m.a, m.b = m.b, m.a
	same(t, "nothing with the first sea", "6 6 0 0 0 6 0", codesOfScores(t, m)...)
	same(t, "nothing with the first sea", "0 0 0 8", codesOfDifferences(t, m)...)
	m = goodMaps(t)
	m.b = m.a
	same(t, "equal seas", "0 0 0 0 0 6 0", codesOfScores(t, m)...)
	same(t, "equal seas", "0 6 0 8", codesOfDifferences(t, m)...)
}

func TestRepairAtErrors(t *testing.T) {
	a, b := eastBy(t, 5), eastBy(t, 6)
	for _, x := range spots(-1, 0, 2, 0, 127, 0, -128, 0, 2, 2, 0, -1, 0, 3, 0, 5, 1, 9, 1, 12, 1, 35, 0, 36, 0, 64, 0, 127, 0, -128) {
		same(t, "no spot", "0 2", codesOfSpots(t, a, b, x)...)
	}
	same(t, "land", "0 4", codesOfSpots(t, a, b, impl.Spot{Tide: 0, Cell: 2})...)
	same(t, "land by ebb", "0 4", codesOfSpots(t, a, a, impl.Spot{Tide: 1, Cell: 2})...)
}

// TestRankMapsErrors has what RankMaps alone looks at.
func TestRankMapsErrors(t *testing.T) {
	good, bad, other := eastBy(t, 5), impl.Sea{}, still(t, 3, 2, bits(2, 8))
	seas := func(many int, last impl.Sea) []impl.Sea {
		var list []impl.Sea
		for range many - 1 {
			list = append(list, good)
		}
		return append(list, last)
	}
	for _, one := range []struct {
		name        string
		maps        []impl.Sea
		cell, begin int64
		list        []impl.Find
		want        string
	}{
		{"eight", seas(8, good), 0, 0, onTwo(2), "0"},
		{"nine", seas(9, good), 0, 0, onTwo(2), "3"},
		{"nine, with numbers that are none", seas(9, good), 99, 9, onTwo(2), "3"},
		{"nine, on land", seas(9, good), 2, 0, nil, "3"},
		{"nine, the last with other land", seas(9, other), 0, 0, onTwo(2), "3"},
		{"nine, the last not valid", seas(9, bad), 0, 0, onTwo(2), "1"},
		{"nine, with bad finds", seas(9, good), 0, 0, onTwo(0), "1"},
		{"many", seas(2500, good), 0, 0, onTwo(2), "3"},
		{"many, the last not valid", seas(2500, bad), 0, 0, onTwo(2), "1"},
		{"the last with other land", seas(8, other), 0, 0, onTwo(2), "4"},
		{"the last with other land, with numbers that are none", seas(8, other), 99, 9, onTwo(2), "4"},
		{"the last not valid", seas(8, bad), 99, 9, onTwo(2), "1"},
		{"one that is not valid", seas(1, bad), 0, 0, nil, "1"},
		{"one, by no tide", seas(1, good), 0, 9, nil, "2"},
		{"one, on land by no tide", seas(1, good), 2, 9, nil, "2"},
		{"one, on land", seas(1, good), 2, 0, nil, "4"},
		{"none", nil, 0, 0, onTwo(2), "0"},
		{"none, with numbers that are none", []impl.Sea{}, math.MinInt64, math.MaxInt64, nil, "0"},
		{"none, on what may be land", nil, 2, 0, onTwo(2), "0"},
	} {
		order, code := impl.RankMaps(one.maps, one.cell, one.begin, one.list)
		same(t, one.name, one.want, code)
		if code != impl.OK && len(order) != 0 || code == impl.OK && len(order) != len(one.maps) {
			t.Errorf("%s: %v", one.name, order)
		}
	}
}
