package tests

import (
	"math"
	"math/big"
	"math/rand"
	"slices"
	"sync"

	"loop.example/g01300/impl"
)

// planOf returns a plan with releases of a cell, an hour and bottles each.
func planOf(begin, hours int8, list ...[3]int) impl.Plan {
	p := impl.Plan{Begin: begin, Hours: hours}
	for _, n := range list {
		p.Releases = append(p.Releases, impl.Release{Cell: int8(n[0]), Hour: int8(n[1]), Bottles: int16(n[2])})
	}
	return p
}

// examplePlan returns the plan of the document's example.
func examplePlan() impl.Plan { return planOf(0, 2, [3]int{0, 0, 1}, [3]int{1, 1, 1}) }

// planCase is a plan that is valid for a sea.
type planCase struct {
	s impl.Sea
	p impl.Plan
}

// wetSeas returns seas with water, some of them with few cells of it.
var wetSeas = sync.OnceValue(func() []impl.Sea {
	r := rand.New(rand.NewSource(8))
	seas := manySeas()[:60]
	for range 40 {
		seas = append(seas, smallSea(r), shallowSea(r, 10+r.Intn(3)))
	}
	return slices.DeleteFunc(seas, func(s impl.Sea) bool {
		water, _ := waterAndLand(s)
		return len(water) == 0
	})
})

// shallowSea makes a valid sea with so many cells of water.
func shallowSea(r *rand.Rand, many int) impl.Sea {
	s := impl.Sea{Wide: int8(3 + r.Intn(4)), High: 6}
	cells := numbersOfCells(int(s.Wide), int(s.High))
	r.Shuffle(len(cells), func(i, j int) { cells[i], cells[j] = cells[j], cells[i] })
	for _, cell := range cells[:many] {
		s.Tides[0][cell], s.Tides[1][cell] = swayingChances(r), swayingChances(r)
	}
	s.Land = bits(cells[many:]...)
	return s
}

// randomPlan returns a plan that is valid for a sea with water.
func randomPlan(r *rand.Rand, s impl.Sea) impl.Plan {
	water, _ := waterAndLand(s)
	p := impl.Plan{Begin: int8(r.Intn(2)), Hours: int8(1 + r.Intn(8))}
	left := 1000
	for range r.Intn(13) {
		bottles := 1 + r.Intn([]int{1, 3, 200}[r.Intn(3)])
		if bottles > left {
			break
		}
		left -= bottles
		p.Releases = append(p.Releases, impl.Release{Cell: int8(water[r.Intn(len(water))]), Hour: int8(r.Intn(int(p.Hours))), Bottles: int16(bottles)})
	}
	return p
}

// manyPlans returns plans of all kinds, the same ones each time.
var manyPlans = sync.OnceValue(func() []planCase {
	r := rand.New(rand.NewSource(12))
	var list []planCase
	for _, s := range wetSeas() {
		for range 4 {
			list = append(list, planCase{s, randomPlan(r, s)})
		}
		list = append(list, planCase{s, impl.Plan{Begin: 1, Hours: 8}}, planCase{s, impl.Plan{Hours: 1, Releases: []impl.Release{}}})
	}
	return list
})

// releaseByHand returns where the bottles of one release may be in the end, by
// the document: as a spread that begins with the hour of the release.
func releaseByHand(s impl.Sea, p impl.Plan, x impl.Release) impl.Spread {
	end := impl.Spread{Begin: (p.Begin + x.Hour) % 2, Bottles: int64(x.Bottles)}
	end.At[x.Cell] = end.Bottles
	for range p.Hours - x.Hour {
		end = hourByHand(s, end)
	}
	return end
}

// endByHand returns where all bottles may be in the end: each release drifts
// alone, and becomes so much as the hours before it make of one part.
func endByHand(s impl.Sea, p impl.Plan) impl.Spread {
	sum := impl.Spread{Begin: p.Begin, Hours: p.Hours}
	for _, x := range p.Releases {
		end, times := releaseByHand(s, p, x), power(int(x.Hour))
		sum.Bottles += end.Bottles
		sum.Out += end.Out * times
		for cell, much := range end.At {
			sum.At[cell] += much * times
		}
	}
	return sum
}

// reachByHand returns the bits of all cells to which a release comes.
func reachByHand(s impl.Sea, p impl.Plan, x impl.Release) uint64 {
	var reach uint64
	for cell, much := range releaseByHand(s, p, x).At {
		if much > 0 {
			reach |= bits(cell)
		}
	}
	return reach
}

// chanceByHand returns the share of a bottle that is released in a cell at an
// hour and comes to some cells.
func chanceByHand(s impl.Sea, p impl.Plan, cell, hour int64, cells uint64) *big.Rat {
	end := releaseByHand(s, p, impl.Release{Cell: int8(cell), Hour: int8(hour), Bottles: 1})
	var sum int64
	for number, much := range end.At {
		if cells&bits(number) != 0 {
			sum += much
		}
	}
	return big.NewRat(sum, power(int(p.Hours)-int(hour)))
}

// inCells returns the sum of a spread over some cells.
func inCells(x impl.Spread, cells uint64) int64 {
	var sum int64
	for cell, much := range x.At {
		if cells&bits(cell) != 0 {
			sum += much
		}
	}
	return sum
}

// bottlesOf returns the sum of all bottles of a plan.
func bottlesOf(p impl.Plan) int64 {
	var sum int64
	for _, x := range p.Releases {
		sum += int64(x.Bottles)
	}
	return sum
}

// badPlans returns plans that are not valid for the sea of the examples, each
// for one reason, by its name.
func badPlans() map[string]impl.Plan {
	list := map[string]impl.Plan{}
	add := func(name string, change func(p *impl.Plan)) {
		p := examplePlan()
		change(&p)
		list[name] = p
	}
	add("tide 2", func(p *impl.Plan) { p.Begin = 2 })
	add("negative tide", func(p *impl.Plan) { p.Begin = -1 })
	add("the least tide", func(p *impl.Plan) { p.Begin = math.MinInt8 })
	add("no hours", func(p *impl.Plan) { *p = impl.Plan{} })
	add("no hours, but releases", func(p *impl.Plan) { p.Hours = 0 })
	add("9 hours", func(p *impl.Plan) { p.Hours = 9 })
	add("9 hours without releases", func(p *impl.Plan) { *p = impl.Plan{Hours: 9} })
	add("127 hours", func(p *impl.Plan) { p.Hours = 127 })
	add("negative hours", func(p *impl.Plan) { *p = impl.Plan{Hours: -1} })
	add("13 releases", func(p *impl.Plan) { p.Releases = slices.Repeat(p.Releases[:1], 13) })
	add("very many releases", func(p *impl.Plan) { p.Releases = slices.Repeat(p.Releases[:1], 300000) })
	add("land", func(p *impl.Plan) { p.Releases[1].Cell = 2 })
	for name, cell := range map[string]int8{
		"beside the grid": 3, "below the grid": 12, "behind all cells": 36, "a bit that comes": 64, "lost": -1,
		"the least cell": math.MinInt8, "the greatest cell": math.MaxInt8,
	} {
		add(name, func(p *impl.Plan) { p.Releases[0].Cell = cell })
		add(name+", later", func(p *impl.Plan) { p.Releases[1].Cell = cell })
	}
	add("an hour behind all", func(p *impl.Plan) { p.Releases[1].Hour = 2 })
	add("a negative hour", func(p *impl.Plan) { p.Releases[0].Hour = -1 })
	add("the greatest hour", func(p *impl.Plan) { p.Releases[0].Hour = math.MaxInt8 })
	add("no bottles", func(p *impl.Plan) { p.Releases[0].Bottles = 0 })
	add("negative bottles", func(p *impl.Plan) { p.Releases[1].Bottles = -1 })
	add("201 bottles", func(p *impl.Plan) { p.Releases[1].Bottles = 201 })
	add("bottles of another width", func(p *impl.Plan) { p.Releases[0].Bottles = 257 })
	add("the most bottles", func(p *impl.Plan) { p.Releases[0].Bottles = math.MaxInt16 })
	add("the least bottles", func(p *impl.Plan) { p.Releases[0].Bottles = math.MinInt16 })
	add("1001 bottles in all", func(p *impl.Plan) {
		*p = planOf(0, 1, [3]int{0, 0, 200}, [3]int{1, 0, 200}, [3]int{6, 0, 200}, [3]int{7, 0, 200}, [3]int{8, 0, 200}, [3]int{0, 0, 1})
	})
	add("2400 bottles in all", func(p *impl.Plan) {
		p.Releases = slices.Repeat([]impl.Release{{Cell: 8, Hour: 1, Bottles: 200}}, 12)
	})
	return list
}

// badSpans are hours that are none of a plan; some are so only behind a
// narrowing.
var badSpans = []int64{0, -1, 9, 14, 256, 258, 1 << 32, 1<<32 + 1, math.MinInt64, math.MaxInt64}
