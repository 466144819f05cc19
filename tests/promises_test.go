package tests

import (
	"maps"
	"math"
	"math/rand"
	"reflect"
	"slices"
	"testing"

	"loop.example/g01300/impl"
)

// call is one call of a function, with all of its arguments.
type call struct {
	name string
	run  func() []any
}

// hardNumbers are numbers within the ranges, at their ends and beyond them.
var hardNumbers = []int64{-1 << 63, -1 << 32, -256, -2, -1, 0, 1, 2, 3, 4, 5, 6, 7, 8, 11, 12, 13, 35, 36, 63, 64, 255, 256, 1 << 32, 1<<63 - 1}

// callsOfSea returns calls of all functions of chapter 1 with a sea.
func callsOfSea(s, other impl.Sea) []call {
	var list []call
	add := func(name string, run func() []any) { list = append(list, call{name, run}) }
	add("ValidSea", func() []any { return []any{impl.ValidSea(s)} })
	add("SameSea", func() []any { return []any{impl.SameSea(s, other)} })
	add("CellsOf", func() []any { x, c := impl.CellsOf(s); return []any{x, c} })
	add("WaterOf", func() []any { x, c := impl.WaterOf(s); return []any{x, c} })
	add("BeachesOf", func() []any { x, c := impl.BeachesOf(s); return []any{x, c} })
	add("CoastOf", func() []any { x, c := impl.CoastOf(s); return []any{x, c} })
	add("MirrorSea", func() []any { x, c := impl.MirrorSea(s); return []any{x, c} })
	add("SwapTides", func() []any { x, c := impl.SwapTides(s); return []any{x, c} })
	add("DifferAt", func() []any { x, y, c := impl.DifferAt(s, other); return []any{x, y, c} })
	add("SeaText", func() []any { return []any{impl.SeaText(s)} })
	add("ReadSea", func() []any { x, c := impl.ReadSea(impl.SeaText(s)); return []any{x, c} })
	add("SeaPicture", func() []any { x, c := impl.SeaPicture(s); return []any{x, c} })
	for _, n := range hardNumbers {
		add("WithLand", func() []any { x, c := impl.WithLand(s, n); return []any{x, c} })
		add("DrainLand", func() []any { x, c := impl.DrainLand(s, n); return []any{x, c} })
		add("MeanFlow", func() []any { x, y, c := impl.MeanFlow(s, n); return []any{x, y, c} })
		for _, m := range hardNumbers {
			add("CellAt", func() []any { x, c := impl.CellAt(s, n, m); return []any{x, c} })
			add("GoesTo", func() []any { x, c := impl.GoesTo(s, n, m); return []any{x, c} })
			add("WithCurrent", func() []any { x, c := impl.WithCurrent(s, n, m); return []any{x, c} })
			add("LikeliestWay", func() []any { x, y, c := impl.LikeliestWay(s, n, m); return []any{x, y, c} })
			add("WithChances", func() []any { x, c := impl.WithChances(s, n, m, impl.Chances{5, 7}); return []any{x, c} })
			add("WithChances", func() []any { x, c := impl.WithChances(s, n, m, impl.Chances{5, 8}); return []any{x, c} })
		}
	}
	return list
}

// callsWithoutSea returns calls of the other functions of chapter 1.
func callsWithoutSea() []call {
	var list []call
	add := func(name string, run func() []any) { list = append(list, call{name, run}) }
	for _, n := range hardNumbers {
		add("CodeName", func() []any { return []any{impl.CodeName(n)} })
		for _, m := range hardNumbers {
			for _, land := range []uint64{0, 1, bits(3), bits(35), bits(36), bits(63), math.MaxUint64} {
				add("StillSea", func() []any { x, c := impl.StillSea(n, m, land); return []any{x, c} })
			}
		}
	}
	for _, c := range []impl.Chances{{}, {12}, {1, 2, 3, 4, 2}, {255, 255, 255, 255, 255}, {0, 0, 0, 0, 13}} {
		add("ValidChances", func() []any { return []any{impl.ValidChances(c)} })
		add("ChancesText", func() []any { return []any{impl.ChancesText(c)} })
		add("ReadChances", func() []any { x, c := impl.ReadChances(impl.ChancesText(c)); return []any{x, c} })
	}
	for _, text := range []string{"", "\n", "1 1\n", "1,1,1,1,8", "1 1\nland\n", "\xff\x00", "6 6\nland\n"} {
		add("ReadChances", func() []any { x, c := impl.ReadChances(text); return []any{x, c} })
		add("ReadSea", func() []any { x, c := impl.ReadSea(text); return []any{x, c} })
	}
	return list
}

// checkZero fails if there is an error and another result is not zero.
func checkZero(t *testing.T, name string, results []any) {
	t.Helper()
	code, ok := results[len(results)-1].(int64)
	if !ok || code == impl.OK {
		return
	}
	for _, result := range results[:len(results)-1] {
		v := reflect.ValueOf(result)
		if !v.IsZero() && (v.Kind() != reflect.Slice || v.Len() != 0) {
			t.Errorf("%s: %v beside the code %d", name, result, code)
		}
	}
}

// spoil overwrites what a call has returned, as its caller may.
func spoil(results []any) {
	for _, result := range results {
		switch list := result.(type) {
		case []string:
			for i := range list {
				list[i] = "spoiled"
			}
		case []int64:
			for i := range list {
				list[i] = -13
			}
		case []impl.Find:
			for i := range list {
				list[i] = impl.Find{Beach: -13, Hour: -13}
			}
		case []impl.Share:
			for i := range list {
				list[i] = impl.Share{P: -13, Q: -13}
			}
		case []impl.Spot:
			for i := range list {
				list[i] = impl.Spot{Tide: -13, Cell: -13}
			}
		case []impl.Fate:
			for i := range list {
				list[i] = impl.Fate{Cell: -13, Tide: -13}
			}
		case []uint64:
			for i := range list {
				list[i] = math.MaxUint64 - 13
			}
		case impl.Bounds:
			for i := range list {
				list[i] = [36]int64{-13}
			}
		case impl.Plan:
			for i := range list.Releases {
				list.Releases[i] = impl.Release{Cell: -13, Hour: -13, Bottles: -13}
			}
		}
	}
}

// kept returns a copy of results that spoil does not reach.
func kept(results []any) []any {
	list := append([]any{}, results...)
	for i, result := range list {
		switch rows := result.(type) {
		case []string:
			list[i] = append([]string{}, rows...)
		case []int64:
			list[i] = append([]int64{}, rows...)
		case []impl.Find:
			list[i] = append([]impl.Find{}, rows...)
		case []impl.Share:
			list[i] = append([]impl.Share{}, rows...)
		case []impl.Spot:
			list[i] = append([]impl.Spot{}, rows...)
		case []impl.Fate:
			list[i] = append([]impl.Fate{}, rows...)
		case []uint64:
			list[i] = append([]uint64{}, rows...)
		case impl.Bounds:
			list[i] = append(impl.Bounds{}, rows...)
		case impl.Plan:
			rows.Releases = append([]impl.Release{}, rows.Releases...)
			list[i] = rows
		}
	}
	return list
}

// TestPromise1 makes each call twice, in another order and behind results that
// have been overwritten: it returns, and returns the same.
func TestPromise1(t *testing.T) {
	calls := append(callsWithoutSea(), callsOfShares()...)
	seas := manySeas()[:8]
	bad := badSeas(t)
	for _, name := range slices.Sorted(maps.Keys(bad)) {
		seas = append(seas, bad[name])
	}
	for i, s := range seas {
		calls = append(calls, callsOfSea(s, seas[(i+1)%len(seas)])...)
		calls = append(calls, callsOfSea(s, s)...)
		calls = append(calls, callsOfDrift(s)...)
		calls = append(calls, callsOfFinds(s)...)
		calls = append(calls, callsOfOrigins(s)...)
		calls = append(calls, callsOfMaps(s, otherMap(s))...)
		calls = append(calls, callsOfMaps(s, seas[(i+1)%len(seas)])...)
	}
	for _, s := range append(seasOfFew(), seas[6:]...) {
		calls = append(calls, callsOfEver(s)...)
		calls = append(calls, callsOfPlans(s)...)
	}
	first := make([][]any, len(calls))
	for i, c := range calls {
		results := c.run()
		checkZero(t, c.name, results)
		first[i] = kept(results)
		spoil(results)
	}
	order := rand.New(rand.NewSource(1)).Perm(len(calls))
	for _, i := range order {
		if again := calls[i].run(); !reflect.DeepEqual(kept(again), first[i]) {
			t.Errorf("%s: %v, then %v", calls[i].name, first[i], again)
		}
	}
}

// TestPromise1Arguments looks at the arguments behind all calls.
func TestPromise1Arguments(t *testing.T) {
	for _, s := range append(manySeas()[:20], impl.Sea{}) {
		a, b := s, s
		for _, c := range callsOfSea(a, b) {
			c.run()
		}
		if a != s || b != s {
			t.Fatalf("%v has been changed", s)
		}
	}
}

// TestPromise2Twice checks what is done twice, and what is done once.
func TestPromise2Twice(t *testing.T) {
	for _, s := range manySeas() {
		m, one := impl.MirrorSea(s)
		back, two := impl.MirrorSea(m)
		if one != impl.OK || two != impl.OK || back != s || !impl.ValidSea(m) || m != mirrorByHand(s) {
			t.Fatalf("mirrored wrongly: %v", s)
		}
		w, three := impl.SwapTides(s)
		again, four := impl.SwapTides(w)
		if three != impl.OK || four != impl.OK || again != s || !impl.ValidSea(w) {
			t.Fatalf("swapped wrongly: %v", s)
		}
		if w.Tides[0] != s.Tides[1] || w.Tides[1] != s.Tides[0] || w.Land != s.Land || w.Wide != s.Wide || w.High != s.High {
			t.Fatalf("nothing but the tides is swapped: %v", s)
		}
	}
}

// mirrorByHand mirrors a sea by the document.
func mirrorByHand(s impl.Sea) impl.Sea {
	m := impl.Sea{Wide: s.Wide, High: s.High}
	for y := range int(s.High) {
		for x := range int(s.Wide) {
			from, to := x+6*y, int(s.Wide)-1-x+6*y
			m.Land |= s.Land >> from & 1 << to
			for tide := range 2 {
				c := s.Tides[tide][from]
				m.Tides[tide][to] = impl.Chances{c[0], c[1], c[4], c[3], c[2]}
			}
		}
	}
	return m
}

// TestPromise2Beaches checks beaches and the coast against the neighbours
// that GoesTo tells.
func TestPromise2Beaches(t *testing.T) {
	for _, s := range manySeas() {
		beaches, one := impl.BeachesOf(s)
		coast, two := impl.CoastOf(s)
		water, three := impl.WaterOf(s)
		cells, four := impl.CellsOf(s)
		same(t, "codes", "0 0 0 0", one, two, three, four)
		if water|s.Land != cells || water&s.Land != 0 || beaches&^s.Land != 0 || coast&^water != 0 {
			t.Fatalf("land and water are mixed: %v", s)
		}
		for _, cell := range numbersOfCells(int(s.Wide), int(s.High)) {
			if got, want := beaches&bits(cell) != 0, s.Land&bits(cell) != 0 && touches(s, cell, coast); got != want {
				t.Fatalf("beach at %d: %v, want %v: %v", cell, got, want, s)
			}
			if got, want := coast&bits(cell) != 0, water&bits(cell) != 0 && touches(s, cell, s.Land); got != want {
				t.Fatalf("coast at %d: %v, want %v: %v", cell, got, want, s)
			}
		}
	}
}

func touches(s impl.Sea, cell int, others uint64) bool {
	for way := int64(1); way < 5; way++ {
		to, _ := impl.GoesTo(s, int64(cell), way)
		if to != impl.Lost && others&bits(int(to)) != 0 {
			return true
		}
	}
	return false
}
