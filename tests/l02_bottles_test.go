package tests

import (
	"slices"
	"testing"

	"loop.example/g01300/impl"
)

// TestDriftBottleWritten follows bottles whose cells and seeds are written out.
func TestDriftBottleWritten(t *testing.T) {
	s := eastward(t)
	for _, one := range []struct {
		cell int64
		seed uint32
		want string
	}{
		{0, 0, "[0 0 0 1 1 1 2] 2670642822 0"},
		{7, 0, "[7 7 7 8 8 8 -1] 2670642822 0"},
		{0, 1, "[0 0 1 2 2 2 2] 2165703038 0"},
		{7, 1, "[7 7 8 -1 -1 -1 -1] 2165703038 0"},
		{0, 1<<32 - 1, "[0 0 1 1 1 1 2] 3754216397 0"},
		{2, 77, "[2 2 2 2 2 2 2] 77 0"},
	} {
		path, seed, code := impl.DriftBottle(s, one.cell, impl.TdFlood, 6, one.seed)
		same(t, "path", one.want, path, seed, code)
	}
	wild := still(t, 6, 6, 0)
	for cell := range wild.Tides[0] {
		wild.Tides[0][cell] = impl.Chances{2, 1, 4, 2, 3}
		wild.Tides[1][cell] = impl.Chances{1, 4, 1, 4, 2}
	}
	path, seed, code := impl.DriftBottle(wild, 13, impl.TdFlood, 14, 9)
	same(t, "flood", "[13 14 8 9 15 21 21 15 21 20 26 27 26 26 32] 1939068815 0", path, seed, code)
	path, seed, code = impl.DriftBottle(wild, 13, impl.TdEbb, 14, 9)
	same(t, "ebb", "[13 7 8 14 15 21 21 15 16 15 14 8 7 7 13] 1939068815 0", path, seed, code)
}

func TestDriftBottle(t *testing.T) {
	for i, s := range manySeas() {
		for _, cell := range numbersOfCells(int(s.Wide), int(s.High)) {
			begin, hours, seed := i%2, (i+cell)%15, uint32(i*2654435761+cell)
			want, behind := bottleByHand(s, cell, begin, hours, seed)
			path, got, code := impl.DriftBottle(s, int64(cell), int64(begin), int64(hours), seed)
			if !slices.Equal(path, want) || got != behind || code != impl.OK {
				t.Fatalf("%v, %d: %v %d %d, want %v %d", s, cell, path, got, code, want, behind)
			}
		}
	}
}

func TestCountDrifts(t *testing.T) {
	for i, s := range manySeas()[:100] {
		cells := numbersOfCells(int(s.Wide), int(s.High))
		cell, begin, hours := cells[i%len(cells)], i%2, i%15
		var want [36]int64
		var lost int64
		behind := uint32(i)
		for range 40 {
			var path []int64
			path, behind = bottleByHand(s, cell, begin, hours, behind)
			if end := path[hours]; end < 0 {
				lost++
			} else {
				want[end]++
			}
		}
		counts, gone, seed, code := impl.CountDrifts(s, int64(cell), int64(begin), int64(hours), uint32(i), 40)
		if counts != want || gone != lost || seed != behind || code != impl.OK {
			t.Fatalf("%v, %d: %v %d %d %d, want %v %d %d", s, cell, counts, gone, seed, code, want, lost, behind)
		}
	}
}

func TestCountDriftsLimits(t *testing.T) {
	s := eastward(t)
	for _, bottles := range []int64{1, 1000, 1001, 2000} {
		counts, gone, seed, code := impl.CountDrifts(s, 2, 0, 14, 5, bottles)
		same(t, "land", "true 0 5 0", counts[2] == bottles, gone, seed, code)
	}
	for _, bottles := range badBottles {
		counts, gone, seed, code := impl.CountDrifts(s, 2, 0, 14, 5, bottles)
		same(t, "range", "true 0 0 2", counts == [36]int64{}, gone, seed, code)
	}
	counts, gone, seed, code := impl.CountDrifts(s, 8, 1, 0, 5, 7)
	same(t, "no hours", "7 0 5 0", counts[8], gone, seed, code)
}

func TestBottleRanges(t *testing.T) {
	s := eastward(t)
	check := func(name string, cell, begin, hours int64) {
		t.Helper()
		path, seed, one := impl.DriftBottle(s, cell, begin, hours, 9)
		counts, gone, other, two := impl.CountDrifts(s, cell, begin, hours, 9, 1)
		same(t, name, "0 0 2 true 0 0 2", len(path), seed, one, counts == [36]int64{}, gone, other, two)
	}
	for _, cell := range append(badCells, impl.Lost) {
		check("no cell", cell, 0, 1)
	}
	for _, tide := range badTides {
		check("no tide", 0, tide, 1)
	}
	for _, hours := range badHours {
		check("hours", 0, 0, hours)
	}
	for name, bad := range badSeas(t) {
		path, seed, one := impl.DriftBottle(bad, 99, 9, 99, 9)
		_, _, _, two := impl.CountDrifts(bad, 99, 9, 99, 9, 0)
		_, _, three := impl.FirstBeach(bad, []int64{99})
		_, _, four := impl.FirstBeach(bad, nil)
		same(t, name, "0 0 1 1 1 1", len(path), seed, one, two, three, four)
	}
}

func TestFirstBeach(t *testing.T) {
	s := still(t, 3, 2, bits(2, 6))
	for _, one := range []struct {
		path []int64
		want string
	}{
		{[]int64{2}, "2 0 0"},
		{[]int64{0, 6, 2}, "6 1 0"},
		{[]int64{-1, -1, 1, 2, 2}, "2 3 0"},
		{[]int64{8, 7, 1, 0, 0}, "0 0 6"},
		{[]int64{-1}, "0 0 6"},
		{nil, "0 0 6"},
		{[]int64{}, "0 0 6"},
		{[]int64{2, 3}, "0 0 2"},
		{[]int64{0, -2}, "0 0 2"},
	} {
		cell, index, code := impl.FirstBeach(s, one.path)
		same(t, "beach", one.want, cell, index, code)
	}
	for _, cell := range badCells {
		if cell == impl.Lost {
			continue
		}
		cell, index, code := impl.FirstBeach(s, []int64{0, 2, cell})
		same(t, "no cell behind a beach", "0 0 2", cell, index, code)
	}
	long := make([]int64, 1000000)
	long[len(long)-1] = 6
	cell, index, code := impl.FirstBeach(s, long)
	same(t, "long", "6 999999 0", cell, index, code)
}
