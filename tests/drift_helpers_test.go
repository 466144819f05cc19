package tests

import (
	"math"
	"math/rand"
	"testing"

	"loop.example/g01300/impl"
)

// eastward returns the sea of the document's examples, with its current.
func eastward(t *testing.T) impl.Sea {
	t.Helper()
	s, code := impl.WithCurrent(example(t), impl.WyEast, 5)
	if code != impl.OK {
		t.Fatalf("WithCurrent: code %d", code)
	}
	return s
}

// tidal returns a sea of water alone, of 6 by 6, in which the flood goes to
// the east by 9 parts, and the ebb to the north and the south by 5 each.
func tidal(t *testing.T) impl.Sea {
	t.Helper()
	s := still(t, 6, 6, 0)
	for cell := range s.Tides[0] {
		s.Tides[0][cell] = impl.Chances{3, 0, 9, 0, 0}
		s.Tides[1][cell] = impl.Chances{2, 5, 0, 5, 0}
	}
	return s
}

// at returns a spread at the beginning, which has to be one.
func at(t *testing.T, s impl.Sea, cell, bottles, begin int64) impl.Spread {
	t.Helper()
	x, code := impl.SpreadAt(s, cell, bottles, begin)
	if code != impl.OK {
		t.Fatalf("SpreadAt %d, %d, %d: code %d", cell, bottles, begin, code)
	}
	return x
}

// drifted returns a spread behind some hours, which have to be in range.
func drifted(t *testing.T, s impl.Sea, x impl.Spread, hours int64) impl.Spread {
	t.Helper()
	y, code := impl.DriftHours(s, x, hours)
	if code != impl.OK {
		t.Fatalf("DriftHours %d: code %d", hours, code)
	}
	return y
}

// power returns 12 to the power hours.
func power(hours int) int64 {
	parts := int64(1)
	for range hours {
		parts *= 12
	}
	return parts
}

// randomSpread deals all parts out to any cells and to what is lost, without
// the program's own functions.
func randomSpread(r *rand.Rand, s impl.Sea, begin, hours, bottles int) impl.Spread {
	x := impl.Spread{Begin: int8(begin), Hours: int8(hours), Bottles: int64(bottles)}
	left := x.Bottles * power(hours)
	cells := numbersOfCells(int(s.Wide), int(s.High))
	for range r.Intn(2 * len(cells)) {
		much := r.Int63n(left + 1)
		x.At[cells[r.Intn(len(cells))]] += much
		left -= much
	}
	if r.Intn(2) == 0 {
		x.Out = left
	} else {
		x.At[cells[r.Intn(len(cells))]] += left
	}
	return x
}

// manySpreads returns spreads for a sea, of all hours, the same ones each
// time.
func manySpreads(s impl.Sea) []impl.Spread {
	r := rand.New(rand.NewSource(14))
	var list []impl.Spread
	for hours := range 15 {
		list = append(list, randomSpread(r, s, r.Intn(2), hours, 1+r.Intn(1000)))
	}
	return append(list, randomSpread(r, s, 0, 14, 1000), randomSpread(r, s, 1, 0, 1))
}

// hourByHand drifts a spread for one hour, by the document.
func hourByHand(s impl.Sea, x impl.Spread) impl.Spread {
	tide := x.Begin
	if x.Hours%2 == 1 {
		tide = 1 - x.Begin
	}
	y := impl.Spread{Begin: x.Begin, Hours: x.Hours + 1, Bottles: x.Bottles, Out: 12 * x.Out}
	for _, cell := range numbersOfCells(int(s.Wide), int(s.High)) {
		if s.Land&bits(cell) != 0 {
			y.At[cell] += 12 * x.At[cell]
			continue
		}
		for way, parts := range s.Tides[tide][cell] {
			much := x.At[cell] * int64(parts)
			if to := stepByHand(s, cell, way); to >= 0 {
				y.At[to] += much
			} else {
				y.Out += much
			}
		}
	}
	return y
}

// bottleByHand follows a bottle, by the document.
func bottleByHand(s impl.Sea, cell, begin, hours int, seed uint32) ([]int64, uint32) {
	path := []int64{int64(cell)}
	state := uint64(seed)
	for hour := range hours {
		if cell >= 0 && s.Land&bits(cell) == 0 {
			state = (1664525*state + 1013904223) % (1 << 32)
			number := int(state / 65536 % 12)
			var ways []int
			for way, parts := range s.Tides[(begin+hour)%2][cell] {
				for range parts {
					ways = append(ways, way)
				}
			}
			cell = stepByHand(s, cell, ways[number])
		}
		path = append(path, int64(cell))
	}
	return path, uint32(state)
}

// badSpreads returns spreads that are not valid for the sea of the examples,
// each for one reason, by its name.
func badSpreads(t *testing.T) map[string]impl.Spread {
	t.Helper()
	good := drifted(t, eastward(t), at(t, eastward(t), 0, 3, 0), 2)
	list := map[string]impl.Spread{"zero": {}}
	add := func(name string, change func(x *impl.Spread)) {
		x := good
		change(&x)
		list[name] = x
	}
	add("no tide", func(x *impl.Spread) { x.Begin = 2 })
	add("negative tide", func(x *impl.Spread) { x.Begin = -1 })
	add("hours of another sum", func(x *impl.Spread) { x.Hours = 3 })
	add("negative hours", func(x *impl.Spread) { x.Hours = -1 })
	add("15 hours", func(x *impl.Spread) {
		x.Hours = 15
		x.At = [36]int64{3 * power(15)}
	})
	add("127 hours", func(x *impl.Spread) { x.Hours = 127 })
	add("no bottles", func(x *impl.Spread) { *x = impl.Spread{Hours: 2} })
	add("negative bottles", func(x *impl.Spread) { x.Bottles = -3 })
	add("1001 bottles", func(x *impl.Spread) { *x = impl.Spread{Bottles: 1001, Out: 1001} })
	add("bottles of another sum", func(x *impl.Spread) { x.Bottles = 4 })
	add("bottles that wrap around", func(x *impl.Spread) { x.Bottles = 3 + 1<<62 })
	add("too much", func(x *impl.Spread) { x.At[0]++ })
	add("too little", func(x *impl.Spread) { x.At[0]-- })
	add("something lost", func(x *impl.Spread) { x.Out++ })
	add("negative water", func(x *impl.Spread) { x.At[6]--; x.At[0]++ })
	add("negative land", func(x *impl.Spread) { x.At[0] += x.At[2] + 1; x.At[2] = -1 })
	add("negative out", func(x *impl.Spread) { x.At[0]++; x.Out-- })
	add("beside the grid", func(x *impl.Spread) { x.At[0]--; x.At[3]++ })
	add("below the grid", func(x *impl.Spread) { x.At[0]--; x.At[12]++ })
	add("the last number", func(x *impl.Spread) { x.At[35], x.At[0] = x.At[0], 0 })
	add("negative beside the grid", func(x *impl.Spread) { x.At[0]++; x.At[3]-- })
	add("a sum that wraps around", func(x *impl.Spread) { x.At[6], x.At[7], x.Out = 1<<63-1, 1<<63-1, 2 })
	add("all that wraps around", func(x *impl.Spread) { x.At[0] += math.MinInt64; x.At[1] += math.MinInt64 })
	return list
}
