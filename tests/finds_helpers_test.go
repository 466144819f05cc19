package tests

import (
	"math"
	"math/big"
	"math/rand"
	"testing"

	"loop.example/g01300/impl"
)

// waterAndLand returns the cells of a sea, apart.
func waterAndLand(s impl.Sea) (water, land []int64) {
	for _, cell := range numbersOfCells(int(s.Wide), int(s.High)) {
		if s.Land&bits(cell) == 0 {
			water = append(water, int64(cell))
		} else {
			land = append(land, int64(cell))
		}
	}
	return water, land
}

// coastalSeas returns seas with both water and land.
func coastalSeas() []impl.Sea {
	var list []impl.Sea
	for _, s := range manySeas() {
		if water, land := waterAndLand(s); len(water) > 0 && len(land) > 0 {
			list = append(list, s)
		}
	}
	return list
}

// strandsByHand returns what strands in just an hour, by the document: only
// what is afloat is followed, and only the last step is looked at.
func strandsByHand(s impl.Sea, cell, begin int64, hour int) [36]int64 {
	var afloat [36]int64
	afloat[cell] = 1
	var stranded [36]int64
	for h := range hour {
		var next [36]int64
		stranded = [36]int64{}
		for from, much := range afloat {
			if much == 0 {
				continue
			}
			for way, parts := range s.Tides[(int(begin)+h)%2][from] {
				to := stepByHand(s, from, way)
				if to < 0 {
					continue
				}
				if s.Land&bits(to) == 0 {
					next[to] += much * int64(parts)
				} else {
					stranded[to] += much * int64(parts)
				}
			}
		}
		afloat = next
	}
	return stranded
}

// strandedByHand sums what strands in the hours from first to last, in parts
// behind the last one.
func strandedByHand(s impl.Sea, cell, begin int64, first, last int) [36]int64 {
	var sum [36]int64
	for hour := first; hour <= last; hour++ {
		for beach, much := range strandsByHand(s, cell, begin, hour) {
			sum[beach] += much * power(last-hour)
		}
	}
	return sum
}

// fractionOf returns a share, which has to be without common divisors, as a
// number.
func fractionOf(t *testing.T, x impl.Share) *big.Rat {
	t.Helper()
	if x.Q < 1 {
		t.Fatalf("%v is no share", x)
	}
	r := big.NewRat(x.P, x.Q)
	if r.Num().Int64() != x.P || r.Denom().Int64() != x.Q {
		t.Fatalf("%v has common divisors", x)
	}
	return r
}

// randomFinds returns so many valid finds for a sea with land.
func randomFinds(r *rand.Rand, s impl.Sea, many int) []impl.Find {
	_, land := waterAndLand(s)
	var list []impl.Find
	for range many {
		list = append(list, impl.Find{Beach: int8(land[r.Intn(len(land))]), Hour: int8(1 + r.Intn(14))})
	}
	return list
}

// manyFinds returns lists of valid finds for a sea with land, the same ones
// each time.
func manyFinds(s impl.Sea) [][]impl.Find {
	r := rand.New(rand.NewSource(60))
	list := [][]impl.Find{nil, {}}
	for _, many := range []int{1, 2, 3, 7, 30, 59, 60} {
		list = append(list, randomFinds(r, s, many))
	}
	return list
}

// repeated returns a list with the same find so many times.
func repeated(f impl.Find, many int) []impl.Find {
	var list []impl.Find
	for range many {
		list = append(list, f)
	}
	return list
}

// badFinds returns finds that are not valid for the sea of the examples, each
// list for one reason, by its name.
func badFinds() map[string][]impl.Find {
	return map[string][]impl.Find{
		"water":                 {{Beach: 1, Hour: 2}},
		"water at the end":      {{Beach: 2, Hour: 2}, {Beach: 2, Hour: 3}, {Beach: 0, Hour: 2}},
		"beside the grid":       {{Beach: 3, Hour: 2}},
		"below the grid":        {{Beach: 14, Hour: 2}},
		"behind all cells":      {{Beach: 36, Hour: 2}},
		"a bit that comes":      {{Beach: 66, Hour: 2}},
		"lost":                  {{Beach: -1, Hour: 2}},
		"the least beach":       {{Beach: math.MinInt8, Hour: 2}},
		"the greatest beach":    {{Beach: math.MaxInt8, Hour: 2}},
		"hour 0":                {{Beach: 2}},
		"hour 15":               {{Beach: 2, Hour: 15}},
		"hour 15 behind others": {{Beach: 2, Hour: 14}, {Beach: 2, Hour: 15}},
		"a negative hour":       {{Beach: 2, Hour: -1}},
		"the least hour":        {{Beach: 2, Hour: math.MinInt8}},
		"the greatest hour":     {{Beach: 2, Hour: math.MaxInt8}},
		"61 finds":              repeated(impl.Find{Beach: 2, Hour: 1}, 61),
		"very many finds":       repeated(impl.Find{Beach: 2, Hour: 1}, 1000000),
	}
}

// badFirstHours are no hours in which something may strand; some are so only
// behind a narrowing.
var badFirstHours = append([]int64{0}, badHours...)
