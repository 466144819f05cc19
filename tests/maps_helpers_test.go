package tests

import (
	"math/big"
	"math/rand"
	"testing"

	"loop.example/g01300/impl"
)

// mapCase has two seas with the same coasts, where and when a bottle is
// released, and finds that are valid for both.
type mapCase struct {
	a, b        impl.Sea
	cell, begin int64
	finds       []impl.Find
}

// eastBy returns the sea of the document's examples with another current.
func eastBy(t *testing.T, parts int64) impl.Sea {
	t.Helper()
	s, code := impl.WithCurrent(example(t), impl.WyEast, parts)
	if code != impl.OK {
		t.Fatalf("WithCurrent: code %d", code)
	}
	return s
}

// onTwo returns finds on the cell 2, in some hours.
func onTwo(hours ...int8) []impl.Find {
	list := []impl.Find{}
	for _, hour := range hours {
		list = append(list, impl.Find{Beach: 2, Hour: hour})
	}
	return list
}

// channel returns a row of two cells of water and one of land, with these
// parts to the east: of the cell 0 by flood and by ebb, and of the cell 1.
func channel(t *testing.T, parts [2][2]uint8) impl.Sea {
	t.Helper()
	s := still(t, 3, 1, bits(2))
	for cell := range parts {
		for tide, east := range parts[cell] {
			s.Tides[tide][cell] = impl.Chances{12 - east, 0, east, 0, 0}
		}
	}
	return s
}

// strait returns a cell of water between two of land, with these chances.
func strait(t *testing.T, flood, ebb impl.Chances) impl.Sea {
	t.Helper()
	s := still(t, 3, 1, bits(0, 2))
	s.Tides[impl.TdFlood][1], s.Tides[impl.TdEbb][1] = flood, ebb
	return s
}

// snake returns a sea in which all water goes one way, by so many parts: from
// the cell 4 in 14 hours, and from the cell 10 in 11, to the cell 23, which is
// land. The rest stays, and comes later.
func snake(t *testing.T, parts uint8) impl.Sea {
	t.Helper()
	s := still(t, 6, 4, bits(23))
	for cell := range 23 {
		way := impl.WyEast
		switch {
		case cell == 5 || cell == 6 || cell == 12:
			way = impl.WySouth
		case cell > 6 && cell < 12:
			way = impl.WyWest
		}
		c := impl.Chances{12 - parts}
		c[way] += parts
		s.Tides[0][cell], s.Tides[1][cell] = c, c
	}
	return s
}

// spots returns a list of spots, of their tides and cells in turn.
func spots(numbers ...int8) []impl.Spot {
	var list []impl.Spot
	for i := 0; i < len(numbers); i += 2 {
		list = append(list, impl.Spot{Tide: numbers[i], Cell: numbers[i+1]})
	}
	return list
}

// logByHand makes a logarithm by the document, with numbers of any size.
func logByHand(n int64) int64 {
	e := int64(0)
	for n>>(e+1) > 0 {
		e++
	}
	x := new(big.Int).Lsh(big.NewInt(n), 30)
	x.Rsh(x, uint(e))
	two := new(big.Int).Lsh(big.NewInt(1), 31)
	log := 16 * e
	for _, worth := range []int64{8, 4, 2, 1} {
		x.Mul(x, x)
		x.Rsh(x, 30)
		if x.Cmp(two) >= 0 {
			log += worth
			x.Rsh(x, 1)
		}
	}
	return log
}

// findScoreByHand returns the score of a find, if it can be.
func findScoreByHand(s impl.Sea, cell, begin int64, f impl.Find) (int64, bool) {
	parts := strandsByHand(s, cell, begin, int(f.Hour))[f.Beach]
	if parts == 0 {
		return 0, false
	}
	return logByHand(parts) - 57*int64(f.Hour), true
}

// scoreByHand returns the score of several finds, if all can be.
func scoreByHand(s impl.Sea, c mapCase) (int64, bool) {
	sum := int64(0)
	for _, f := range c.finds {
		score, can := findScoreByHand(s, c.cell, c.begin, f)
		if !can {
			return 0, false
		}
		sum += score
	}
	return sum, true
}

// spotsByHand returns all spots at which the seas differ.
func spotsByHand(a, b impl.Sea) []impl.Spot {
	var list []impl.Spot
	for tide := range int8(2) {
		for cell := range int8(36) {
			if a.Tides[tide][cell] != b.Tides[tide][cell] {
				list = append(list, impl.Spot{Tide: tide, Cell: cell})
			}
		}
	}
	return list
}

// repairByHand returns a with the chances of b at a spot.
func repairByHand(a, b impl.Sea, x impl.Spot) impl.Sea {
	a.Tides[x.Tide][x.Cell] = b.Tides[x.Tide][x.Cell]
	return a
}

// bestByHand returns the best repair of a sea, and the score, if it is better.
func bestByHand(a impl.Sea, c mapCase) (impl.Spot, int64, bool) {
	now, can := scoreByHand(a, c)
	var able []impl.Spot
	var scores []int64
	for _, x := range spotsByHand(a, c.b) {
		if score, can := scoreByHand(repairByHand(a, c.b, x), c); can {
			able, scores = append(able, x), append(scores, score)
		}
	}
	best := -1
	for i, score := range scores {
		if (best < 0 || score > scores[best]) && (!can || score > now) {
			best = i
		}
	}
	if best < 0 {
		return impl.Spot{}, 0, false
	}
	return able[best], scores[best], true
}

// possibleFinds returns all finds that can be, ordered by their hours.
func possibleFinds(s impl.Sea, cell, begin int64) []impl.Find {
	var list []impl.Find
	for hour := range 14 {
		for beach, parts := range strandsByHand(s, cell, begin, hour+1) {
			if parts > 0 {
				list = append(list, impl.Find{Beach: int8(beach), Hour: int8(hour + 1)})
			}
		}
	}
	return list
}

// someOf returns so many finds of a list, if it has any.
func someOf(r *rand.Rand, list []impl.Find, many int) []impl.Find {
	var some []impl.Find
	for range many {
		if len(list) > 0 {
			some = append(some, list[r.Intn(len(list))])
		}
	}
	return some
}

// otherChances returns a sea with other chances at some spots.
func otherChances(r *rand.Rand, s impl.Sea, many int) impl.Sea {
	water, _ := waterAndLand(s)
	for range many {
		s.Tides[r.Intn(2)][water[r.Intn(len(water))]] = randomChances(r)
	}
	return s
}

// manyMaps returns cases of all kinds, the same ones each time: with finds
// that can be with both seas, with one, or with none, and seas that are equal
// or differ at a few spots or at many.
func manyMaps() []mapCase {
	r := rand.New(rand.NewSource(5))
	var list []mapCase
	for i, s := range coastalSeas() {
		water, _ := waterAndLand(s)
		c := mapCase{a: s, b: otherChances(r, s, i%4*(1+i%11)), cell: water[r.Intn(len(water))], begin: int64(r.Intn(2))}
		if i%5 == 0 {
			c.a, c.b = c.b, c.a
		}
		can := [][]impl.Find{possibleFinds(c.a, c.cell, c.begin), possibleFinds(c.b, c.cell, c.begin)}
		for many := range 4 {
			c.finds = someOf(r, can[0], many)
			list = append(list, c)
			c.finds = someOf(r, can[1], many*many)
			list = append(list, c)
		}
		c.finds = randomFinds(r, s, 1+i%3)
		list = append(list, c)
	}
	return list
}
