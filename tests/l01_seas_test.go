package tests

import (
	"math"
	"strings"
	"testing"

	"loop.example/g01300/impl"
)

func TestSeasExample(t *testing.T) {
	s := example(t)
	cells, c1 := impl.CellsOf(s)
	water, c2 := impl.WaterOf(s)
	beaches, c3 := impl.BeachesOf(s)
	coast, c4 := impl.CoastOf(s)
	picture, c5 := impl.SeaPicture(s)
	same(t, "sets", "0 0 0 0 0 [.,# ..,]", c1, c2, c3, c4, c5, picture)
	if cells != bits(0, 1, 2, 6, 7, 8) || water != bits(0, 1, 6, 7, 8) || beaches != bits(2) || coast != bits(1, 8) {
		t.Errorf("sets: %d %d %d %d", cells, water, beaches, coast)
	}
	e, c6 := impl.WithCurrent(s, impl.WyEast, 5)
	for _, cell := range []int{0, 1, 6, 7, 8} {
		same(t, "current", "7,0,5,0,0 7,0,5,0,0", impl.ChancesText(e.Tides[0][cell]), impl.ChancesText(e.Tides[1][cell]))
	}
	a, c7 := impl.GoesTo(e, 1, impl.WyEast)
	b, c8 := impl.GoesTo(e, 8, impl.WyEast)
	same(t, "ways", "0 2 0 -1 0", c6, a, c7, b, c8)
	for tide := range int64(2) {
		east, south, code := impl.MeanFlow(e, tide)
		same(t, "flow", "25 0 0", east, south, code)
	}
}

func TestConstants(t *testing.T) {
	same(t, "codes", "0 1 2 3 4 5 6 7 8", impl.OK, impl.ErrInvalid, impl.ErrRange, impl.ErrLimit, impl.ErrState, impl.ErrSyntax, impl.ErrNotFound, impl.ErrBudget, impl.ErrProof)
	same(t, "numbers", "6 36 12 -1", impl.Stride, impl.Cells, impl.Parts, impl.Lost)
	same(t, "ways and tides", "0 1 2 3 4 0 1", impl.WyStay, impl.WyNorth, impl.WyEast, impl.WySouth, impl.WyWest, impl.TdFlood, impl.TdEbb)
}

func TestCodeName(t *testing.T) {
	names := strings.Fields("ok invalid range limit state syntax notfound budget proof")
	for code, name := range names {
		same(t, "name", name, impl.CodeName(int64(code)))
	}
	for _, code := range []int64{-1, 9, 256, 1 << 32, math.MinInt64, math.MaxInt64} {
		same(t, "no name", "", impl.CodeName(code))
	}
}

func TestValidChances(t *testing.T) {
	for _, c := range []impl.Chances{{12}, {0, 0, 0, 0, 12}, {2, 3, 1, 4, 2}, {0, 12}} {
		if !impl.ValidChances(c) {
			t.Errorf("%v is valid", c)
		}
	}
	// The last ones sum to 12 modulo 256.
	for _, c := range []impl.Chances{{}, {11}, {13}, {6, 7}, {255, 13}, {200, 68}, {255, 255, 14}} {
		if impl.ValidChances(c) {
			t.Errorf("%v is not valid", c)
		}
	}
}

func TestValidSea(t *testing.T) {
	for _, s := range manySeas() {
		if !impl.ValidSea(s) {
			t.Errorf("%v is valid", s)
		}
	}
	for name, s := range badSeas(t) {
		if impl.ValidSea(s) {
			t.Errorf("%s: is not valid", name)
		}
	}
	for _, s := range []impl.Sea{still(t, 6, 6, 0), still(t, 6, 6, 1<<36-1), still(t, 1, 1, 0), still(t, 1, 1, 1)} {
		if !impl.ValidSea(s) {
			t.Errorf("%v is valid", s)
		}
	}
}

func TestSameSea(t *testing.T) {
	s := example(t)
	if !impl.SameSea(s, s) || !impl.SameSea(impl.Sea{}, impl.Sea{}) {
		t.Error("a sea is as itself")
	}
	for name, bad := range badSeas(t) {
		if impl.SameSea(s, bad) || impl.SameSea(bad, s) || !impl.SameSea(bad, bad) {
			t.Errorf("%s: compared wrongly", name)
		}
	}
	for tide := range s.Tides {
		for cell := range s.Tides[tide] {
			for way := range s.Tides[tide][cell] {
				other := s
				other.Tides[tide][cell][way]++
				if impl.SameSea(s, other) {
					t.Errorf("the parts of %d %d %d are not looked at", tide, cell, way)
				}
			}
		}
	}
}

func TestStillSea(t *testing.T) {
	for wide := range int64(6) {
		for high := range int64(6) {
			s := still(t, wide+1, high+1, 1)
			for _, cell := range numbersOfCells(int(wide)+1, int(high)+1) {
				want := impl.Chances{12}
				if cell == 0 {
					want = impl.Chances{}
				}
				if s.Tides[0][cell] != want || s.Tides[1][cell] != want {
					t.Errorf("%d %d: cell %d does not stay", wide+1, high+1, cell)
				}
			}
			if int64(s.Wide) != wide+1 || int64(s.High) != high+1 || s.Land != 1 || !impl.ValidSea(s) {
				t.Errorf("%d %d: %v", wide+1, high+1, s)
			}
		}
	}
}

func TestStillSeaErrors(t *testing.T) {
	for _, n := range []int64{0, -1, 7, 257, 259, 1 << 32, math.MinInt64, math.MaxInt64} {
		// The land is beyond the grid, too, but the range is looked at first.
		_, one := impl.StillSea(n, 3, 1<<40)
		_, two := impl.StillSea(3, n, 1<<40)
		same(t, "range", "2 2", one, two)
	}
	for _, bit := range []int{3, 5, 9, 12, 35, 36, 63} {
		s, code := impl.StillSea(3, 2, bits(0, bit))
		same(t, "state", "4 true", code, s == impl.Sea{})
	}
}

func TestCellAt(t *testing.T) {
	s := example(t)
	for y := range int64(2) {
		for x := range int64(3) {
			cell, code := impl.CellAt(s, x, y)
			if cell != x+6*y || code != impl.OK {
				t.Errorf("%d %d: %d %d", x, y, cell, code)
			}
		}
	}
	last, code := impl.CellAt(still(t, 6, 6, 0), 5, 5)
	same(t, "last", "35 0", last, code)
	for _, p := range [][2]int64{{3, 0}, {0, 2}, {-1, 0}, {0, -1}, {6, 0}, {-5, 1}, {256, 0}, {math.MaxInt64, 0}, {0, math.MinInt64}} {
		cell, code := impl.CellAt(s, p[0], p[1])
		same(t, "range", "0 2", cell, code)
	}
}

func TestGoesTo(t *testing.T) {
	for _, s := range manySeas() {
		wide, high := int(s.Wide), int(s.High)
		for _, cell := range numbersOfCells(wide, high) {
			for way := range 5 {
				want := stepByHand(s, cell, way)
				to, code := impl.GoesTo(s, int64(cell), int64(way))
				if int(to) != want || code != impl.OK {
					t.Fatalf("%d by %d, cell %d, way %d: %d %d, want %d", wide, high, cell, way, to, code, want)
				}
			}
		}
	}
}

// badCells are numbers that are no cells of the example, and badWays and
// badTides no ways and tides; some are so only behind a narrowing.
var (
	badCells = []int64{-1, 3, 5, 9, 11, 12, 35, 36, 63, 64, 256, -256, 1 << 32, math.MinInt64, math.MaxInt64}
	badWays  = []int64{-1, 5, 256, 1 << 32, math.MinInt64, math.MaxInt64}
	badTides = []int64{-1, 2, 256, 1 << 32, math.MinInt64, math.MaxInt64}
)

func TestRangeErrors(t *testing.T) {
	s := example(t)
	good := impl.Chances{12}
	for _, cell := range badCells {
		_, one := impl.GoesTo(s, cell, 0)
		_, two := impl.WithChances(s, 0, cell, good)
		_, three := impl.WithLand(s, cell)
		_, four := impl.DrainLand(s, cell)
		_, _, five := impl.LikeliestWay(s, 0, cell)
		same(t, "no cell", "2 2 2 2 2", one, two, three, four, five)
	}
	for _, way := range badWays {
		_, one := impl.GoesTo(s, 0, way)
		_, two := impl.WithCurrent(s, way, 1)
		same(t, "no way", "2 2", one, two)
	}
	// The cell 2 is land, but the range is looked at first.
	for _, tide := range badTides {
		_, one := impl.WithChances(s, tide, 2, good)
		_, _, two := impl.LikeliestWay(s, tide, 2)
		_, _, three := impl.MeanFlow(s, tide)
		same(t, "no tide", "2 2 2", one, two, three)
	}
	for _, part := range []int64{-1, 13, 256, 261, 1 << 32, math.MinInt64, math.MaxInt64} {
		_, one := impl.WithCurrent(s, impl.WyStay, part)
		_, two := impl.WithCurrent(s, impl.WyEast, part)
		same(t, "no part", "2 2", one, two)
	}
}

func TestStateErrors(t *testing.T) {
	s := example(t)
	_, one := impl.WithChances(s, 1, 2, impl.Chances{12})
	_, two := impl.WithLand(s, 2)
	_, three := impl.DrainLand(s, 0)
	_, _, four := impl.LikeliestWay(s, 1, 2)
	same(t, "state", "4 4 4 4", one, two, three, four)
	for name, other := range map[string]impl.Sea{
		"width": still(t, 2, 2, 0), "height": still(t, 3, 1, 4), "land": still(t, 3, 2, 8>>1|1), "turned": still(t, 2, 3, 0),
	} {
		_, _, one := impl.DifferAt(s, other)
		_, _, two := impl.DifferAt(other, s)
		same(t, name, "4 4", one, two)
	}
}

// TestInvalidFirst gives each function a sea that is not valid, together with
// arguments that are beyond the range: ErrInvalid is told.
func TestInvalidFirst(t *testing.T) {
	good := example(t)
	for name, s := range badSeas(t) {
		_, c1 := impl.CellAt(s, 9, 9)
		_, c2 := impl.GoesTo(s, 99, 9)
		_, c3 := impl.CellsOf(s)
		_, c4 := impl.WaterOf(s)
		_, c5 := impl.BeachesOf(s)
		_, c6 := impl.CoastOf(s)
		_, c7 := impl.WithChances(s, 9, 99, impl.Chances{12})
		_, c8 := impl.WithCurrent(s, 9, 99)
		_, c9 := impl.WithLand(s, 99)
		_, c10 := impl.DrainLand(s, 99)
		_, c11 := impl.MirrorSea(s)
		_, c12 := impl.SwapTides(s)
		_, _, c13 := impl.LikeliestWay(s, 9, 99)
		_, _, c14 := impl.MeanFlow(s, 9)
		_, _, c15 := impl.DifferAt(s, good)
		_, _, c16 := impl.DifferAt(good, s)
		picture, c17 := impl.SeaPicture(s)
		same(t, name, "1 1 1 1 1 1 1 1 1 1 1 1 1 1 1 1 1 0 true", c1, c2, c3, c4, c5, c6, c7, c8, c9, c10, c11, c12, c13, c14, c15, c16, c17, len(picture), impl.SeaText(s) == "")
		_, _, c18 := impl.DifferAt(s, s)
		same(t, name+" with itself", "1", c18)
	}
	for _, c := range []impl.Chances{{}, {11}, {13}, {255, 13}} {
		_, code := impl.WithChances(good, 9, 99, c)
		same(t, "chances", "1", code)
	}
}

func TestSetsOfCells(t *testing.T) {
	s := still(t, 6, 6, bits(5, 30))
	cells, _ := impl.CellsOf(s)
	water, _ := impl.WaterOf(s)
	beaches, _ := impl.BeachesOf(s)
	coast, _ := impl.CoastOf(s)
	// The cells 5 and 6, and 29 and 30, are no neighbours: a row ends between them.
	if cells != 1<<36-1 || water != cells&^bits(5, 30) || beaches != bits(5, 30) || coast != bits(4, 11, 24, 31) {
		t.Errorf("%d %d %d %d", cells, water, beaches, coast)
	}
	dry := still(t, 3, 3, bits(0, 1, 2, 6, 7, 8, 12, 13, 14))
	beaches, _ = impl.BeachesOf(dry)
	coast, _ = impl.CoastOf(dry)
	water, _ = impl.WaterOf(dry)
	same(t, "all land", "0 0 0", beaches, coast, water)
	wet := still(t, 3, 3, 0)
	beaches, _ = impl.BeachesOf(wet)
	coast, _ = impl.CoastOf(wet)
	same(t, "all water", "0 0", beaches, coast)
	ring, _ := impl.DrainLand(dry, 7)
	beaches, _ = impl.BeachesOf(ring)
	coast, _ = impl.CoastOf(ring)
	if beaches != bits(1, 6, 8, 13) || coast != bits(7) {
		t.Errorf("corners are no neighbours: %d %d", beaches, coast)
	}
}

func TestWithChances(t *testing.T) {
	s := example(t)
	c := impl.Chances{1, 2, 3, 4, 2}
	for tide := range int64(2) {
		for _, cell := range []int64{0, 1, 6, 7, 8} {
			got, code := impl.WithChances(s, tide, cell, c)
			want := s
			want.Tides[tide][cell] = c
			if got != want || code != impl.OK {
				t.Errorf("%d %d: %v %d", tide, cell, got, code)
			}
		}
	}
}

func TestWithCurrent(t *testing.T) {
	for _, s := range manySeas() {
		for way := range int64(5) {
			for part := range int64(13) {
				want := s
				for tide := range 2 {
					for cell := range 36 {
						c := &want.Tides[tide][cell]
						for taken := int64(0); taken < part && c[0] > 0 && way > 0; taken++ {
							c[0]--
							c[way]++
						}
					}
				}
				got, code := impl.WithCurrent(s, way, part)
				if got != want || code != impl.OK {
					t.Fatalf("way %d, part %d: %v %d", way, part, got, code)
				}
			}
		}
	}
}

func TestWithLandAndDrainLand(t *testing.T) {
	e, _ := impl.WithCurrent(example(t), impl.WyEast, 5)
	land, code := impl.WithLand(e, 7)
	same(t, "land", "0 true 132", code, impl.ValidSea(land), land.Land)
	water, code := impl.DrainLand(land, 7)
	same(t, "water", "0 true 4 [12 0 0 0 0] [12 0 0 0 0]", code, impl.ValidSea(water), water.Land, water.Tides[0][7], water.Tides[1][7])
	again, code := impl.WithLand(water, 7)
	same(t, "again", "0 true", code, again == land)
	for _, s := range manySeas() {
		for _, cell := range numbersOfCells(int(s.Wide), int(s.High)) {
			if s.Land&bits(cell) == 0 {
				continue
			}
			drained, one := impl.DrainLand(s, int64(cell))
			back, two := impl.WithLand(drained, int64(cell))
			if one != impl.OK || two != impl.OK || back != s || drained.Land != s.Land&^bits(cell) || !impl.ValidSea(drained) {
				t.Fatalf("cell %d is not land again", cell)
			}
		}
	}
}

func TestLikeliestWay(t *testing.T) {
	s := example(t)
	for _, x := range []struct {
		c    impl.Chances
		want string
	}{
		{impl.Chances{12}, "0 12 0"},
		{impl.Chances{0, 0, 0, 0, 12}, "4 12 0"},
		{impl.Chances{4, 4, 4}, "0 4 0"},
		{impl.Chances{0, 1, 5, 1, 5}, "2 5 0"},
		{impl.Chances{2, 3, 2, 3, 2}, "1 3 0"},
	} {
		e, _ := impl.WithChances(s, impl.TdEbb, 8, x.c)
		way, parts, code := impl.LikeliestWay(e, impl.TdEbb, 8)
		same(t, "ebb", x.want, way, parts, code)
		way, parts, code = impl.LikeliestWay(e, impl.TdFlood, 8)
		same(t, "flood", "0 12 0", way, parts, code)
	}
}

func TestMeanFlow(t *testing.T) {
	s := example(t)
	s, _ = impl.WithChances(s, impl.TdFlood, 0, impl.Chances{0, 7, 0, 1, 4})
	s, _ = impl.WithChances(s, impl.TdFlood, 7, impl.Chances{0, 0, 3, 9, 0})
	east, south, code := impl.MeanFlow(s, impl.TdFlood)
	same(t, "flood", "-1 3 0", east, south, code)
	east, south, code = impl.MeanFlow(s, impl.TdEbb)
	same(t, "ebb", "0 0 0", east, south, code)
	west, _ := impl.WithCurrent(still(t, 6, 6, 0), impl.WyWest, 12)
	east, south, code = impl.MeanFlow(west, impl.TdEbb)
	same(t, "west", "-432 0 0", east, south, code)
	north, _ := impl.WithCurrent(still(t, 6, 6, 0), impl.WyNorth, 12)
	east, south, code = impl.MeanFlow(north, impl.TdEbb)
	same(t, "north", "0 -432 0", east, south, code)
	east, south, code = impl.MeanFlow(still(t, 1, 1, 1), impl.TdFlood)
	same(t, "land", "0 0 0", east, south, code)
}

func TestDifferAt(t *testing.T) {
	s := example(t)
	c := impl.Chances{6, 6}
	early, _ := impl.WithChances(s, impl.TdEbb, 0, c)
	late, _ := impl.WithChances(s, impl.TdFlood, 8, c)
	both, _ := impl.WithChances(early, impl.TdFlood, 8, c)
	for _, x := range []struct {
		name string
		a, b impl.Sea
		want string
	}{
		{"none", s, s, "0 0 6"},
		{"ebb", s, early, "1 0 0"},
		{"flood", late, s, "0 8 0"},
		{"the tide goes first", s, both, "0 8 0"},
		{"the one that is left", late, both, "1 0 0"},
	} {
		tide, cell, code := impl.DifferAt(x.a, x.b)
		same(t, x.name, x.want, tide, cell, code)
	}
}

func TestSeaPicture(t *testing.T) {
	picture, code := impl.SeaPicture(still(t, 6, 3, bits(0, 8, 17)))
	same(t, "picture", "[#,,... ,,#,., ..,.,#] 0", picture, code)
	picture, code = impl.SeaPicture(still(t, 1, 3, bits(0, 6, 12)))
	same(t, "land", "[# # #] 0", picture, code)
	picture, code = impl.SeaPicture(still(t, 2, 1, 0))
	same(t, "water", "[..] 0", picture, code)
}
