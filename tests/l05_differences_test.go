package tests

import (
	"fmt"
	"testing"

	"loop.example/g01300/impl"
)

// apart returns the size of a difference.
func apart(x, y int64) int64 {
	if x > y {
		return x - y
	}
	return y - x
}

func TestMapDistance(t *testing.T) {
	for i, c := range manyMaps() {
		hours := 1 + i%14
		x := impl.Spread{Begin: int8(c.begin), Bottles: 1}
		x.At[c.cell] = 1
		y := x
		for range hours {
			x, y = hourByHand(c.a, x), hourByHand(c.b, y)
		}
		want := apart(x.Out, y.Out)
		for cell := range x.At {
			want += apart(x.At[cell], y.At[cell])
		}
		got, code := impl.MapDistance(c.a, c.b, c.cell, c.begin, int64(hours))
		back, _ := impl.MapDistance(c.b, c.a, c.cell, c.begin, int64(hours))
		none, _ := impl.MapDistance(c.a, c.a, c.cell, c.begin, int64(hours))
		if got != want || back != want || none != 0 || code != impl.OK {
			t.Fatalf("%d, %v, %d: %d and back %d, from itself %d, code %d, want %d", i, c, hours, got, back, none, code, want)
		}
	}
}

func TestMapDistanceWritten(t *testing.T) {
	a, b := eastBy(t, 5), eastBy(t, 6)
	// 49, 70 and 25 of 144 with the one, 36, 72 and 36 with the other one.
	got, code := impl.MapDistance(a, b, 0, impl.TdFlood, 2)
	same(t, "two hours", "26 0", got, code)
	// The cell 8 is at the edge: 5 of 12 parts are lost, or 6.
	got, code = impl.MapDistance(a, b, 8, impl.TdEbb, 1)
	same(t, "lost", "2 0", got, code)
	west := strait(t, impl.Chances{0, 0, 0, 0, 12}, impl.Chances{12})
	east := strait(t, impl.Chances{0, 0, 12}, impl.Chances{12})
	got, code = impl.MapDistance(west, east, 1, impl.TdFlood, 14)
	same(t, "all parts", fmt.Sprint(2*power(14), " 0"), got, code)
	got, code = impl.MapDistance(west, east, 1, impl.TdEbb, 1)
	same(t, "the other tide", "0 0", got, code)
}

func TestTellingFind(t *testing.T) {
	none := 0
	for i, c := range manyMaps() {
		hours := 1 + i%14
		var best impl.Find
		var most int64
		for hour := 1; hour <= hours; hour++ {
			inA := strandsByHand(c.a, c.cell, c.begin, hour)
			inB := strandsByHand(c.b, c.cell, c.begin, hour)
			for beach := range inA {
				if by := apart(inA[beach], inB[beach]) * power(hours-hour); by > most {
					best, most = impl.Find{Beach: int8(beach), Hour: int8(hour)}, by
				}
			}
		}
		got, by, code := impl.TellingFind(c.a, c.b, c.cell, c.begin, int64(hours))
		if most == 0 {
			none++
			same(t, "none", "{0 0} 0 6", got, by, code)
			continue
		}
		if got != best || by != most || code != impl.OK {
			t.Fatalf("%d, %v, %d: %v %d %d, want %v %d", i, c, hours, got, by, code, best, most)
		}
	}
	if none < 100 {
		t.Errorf("only %d pairs of seas cannot be told apart", none)
	}
}

// TestTellingFindTies has finds that are as good as others.
func TestTellingFindTies(t *testing.T) {
	tell := func(name, want string, a, b impl.Sea, hours int64) {
		t.Helper()
		f, by, code := impl.TellingFind(a, b, 1, impl.TdFlood, hours)
		same(t, name, want, f, by, code)
		f, by, code = impl.TellingFind(b, a, 1, impl.TdFlood, hours)
		same(t, name+", back", want, f, by, code)
	}
	calm := impl.Chances{12}
	one, two := impl.Chances{10, 0, 1, 0, 1}, impl.Chances{8, 0, 2, 0, 2}
	tell("the least beach", "{0 1} 1 0", strait(t, one, calm), strait(t, two, calm), 1)
	tell("of more hours", "{0 1} 144 0", strait(t, one, calm), strait(t, two, calm), 3)
	// In the hour 2 these have 12 parts, or none, and in the hour 1 none, or 1.
	late, early := strait(t, calm, impl.Chances{11, 0, 1}), strait(t, impl.Chances{11, 0, 1}, calm)
	tell("the least hour", "{2 1} 12 0", late, early, 2)
	late = strait(t, calm, impl.Chances{11, 0, 0, 0, 1})
	tell("the least hour, not the least beach", "{2 1} 12 0", late, early, 2)
	tell("a greater one later", "{2 2} 24 0", strait(t, calm, impl.Chances{10, 0, 2}), early, 2)
	tell("the last one alone", "{2 2} 24 0", strait(t, calm, impl.Chances{10, 0, 2}), strait(t, calm, calm), 2)
	tell("not up to then", "{0 0} 0 6", strait(t, calm, impl.Chances{10, 0, 2}), strait(t, calm, calm), 1)
	tell("equal", "{0 0} 0 6", early, early, 14)
	all := strait(t, impl.Chances{0, 0, 12}, calm)
	tell("all parts", fmt.Sprint("{2 1} ", power(14), " 0"), all, strait(t, calm, calm), 14)
	// Where the bottle never comes the seas may differ.
	f, by, code := impl.TellingFind(channel(t, [2][2]uint8{{5, 5}, {0, 0}}), channel(t, [2][2]uint8{{7, 7}, {0, 0}}), 0, impl.TdFlood, 14)
	same(t, "never on a beach", "{0 0} 0 6", f, by, code)
}

// gainByHand returns the expected gain, if there is one.
func gainByHand(c mapCase, hour int) (int64, bool) {
	inA := strandsByHand(c.a, c.cell, c.begin, hour)
	inB := strandsByHand(c.b, c.cell, c.begin, hour)
	sum := int64(0)
	for beach, parts := range inA {
		if parts > 0 && inB[beach] == 0 {
			return 0, false
		}
		if parts > 0 {
			sum += parts * (logByHand(parts) - logByHand(inB[beach]))
		}
	}
	return sum, true
}

func TestExpectedGain(t *testing.T) {
	kinds := map[string]int{}
	for i, c := range manyMaps() {
		hour, bound := int64(1+i%14), int64(1+i*i%1000)
		want, can := gainByHand(c, int(hour))
		gain, one := impl.ExpectedGain(c.a, c.b, c.cell, c.begin, hour)
		many, two := impl.FindsNeeded(c.a, c.b, c.cell, c.begin, hour, bound)
		switch {
		case !can:
			kinds["none"]++
			same(t, "none", "0 6 0 6", gain, one, many, two)
			continue
		case want <= 0:
			kinds["no gain"]++
			same(t, "no gain", fmt.Sprint(want, " 0 0 8"), gain, one, many, two)
			continue
		}
		kinds["gain"]++
		least := many >= 1 && many*gain >= bound*power(int(hour)) && (many-1)*gain < bound*power(int(hour))
		if gain != want || one != impl.OK || two != impl.OK || !least {
			t.Fatalf("%d, %v, %d, %d: %d %d, %d %d, want %d", i, c, hour, bound, gain, one, many, two, want)
		}
	}
	for _, kind := range []string{"none", "no gain", "gain"} {
		if kinds[kind] < 60 {
			t.Errorf("%s: only %d", kind, kinds[kind])
		}
	}
}

func TestExpectedGainWritten(t *testing.T) {
	a, b, calm := eastBy(t, 5), eastBy(t, 6), example(t)
	// By flood the water of these goes to both beaches, or to one.
	both := strait(t, impl.Chances{6, 0, 4, 0, 2}, impl.Chances{12})
	other := strait(t, impl.Chances{6, 0, 2, 0, 4}, impl.Chances{12})
	east := strait(t, impl.Chances{8, 0, 4, 0, 0}, impl.Chances{12})
	for _, one := range []struct {
		name       string
		a, b       impl.Sea
		cell, hour int64
		want       string
	}{
		{"greater", b, a, 0, 2, "288 0"},
		{"less", a, b, 0, 2, "-200 0"},
		{"equal", a, a, 0, 2, "0 0"},
		{"nothing strands with both", a, b, 0, 1, "0 0"},
		{"never with both", a, b, 8, 14, "0 0"},
		{"0 with b", a, calm, 0, 2, "0 6"},
		{"0 with a", calm, a, 0, 2, "0 0"},
		{"0 with both", a, calm, 0, 1, "0 0"},
		{"two beaches", both, other, 1, 1, "32 0"},
		{"0 with b on one of two", both, east, 1, 1, "0 6"},
		{"0 with a on one of two", east, both, 1, 1, "0 0"},
		{"0 with a on one, greater on the other one", strait(t, impl.Chances{4, 0, 8}, impl.Chances{12}), both, 1, 1, "128 0"},
		{"all parts", snake(t, 12), snake(t, 1), 10, 11, fmt.Sprint(power(11)*630, " 0")},
		{"one part", snake(t, 1), snake(t, 12), 10, 11, "-630 0"},
	} {
		gain, code := impl.ExpectedGain(one.a, one.b, one.cell, impl.TdFlood, one.hour)
		same(t, one.name, one.want, gain, code)
	}
}

func TestFindsNeededWritten(t *testing.T) {
	a, b, calm := eastBy(t, 5), eastBy(t, 6), example(t)
	for _, one := range []struct {
		name        string
		a, b        impl.Sea
		hour, bound int64
		want        string
	}{
		{"just enough", b, a, 2, 8, "4 0"},
		{"one more", b, a, 2, 9, "5 0"},
		{"just enough again", b, a, 2, 10, "5 0"},
		{"one", b, a, 2, 1, "1 0"},
		{"one for all of it", b, a, 2, 2, "1 0"},
		{"the greatest bound", b, a, 2, 1000, "500 0"},
		{"a loss", a, b, 2, 1, "0 8"},
		{"equal", a, a, 2, 8, "0 8"},
		{"0 with a", calm, a, 2, 8, "0 8"},
		{"nothing strands", b, a, 1, 8, "0 8"},
		{"0 with b", a, calm, 2, 8, "0 6"},
	} {
		many, code := impl.FindsNeeded(one.a, one.b, 0, impl.TdFlood, one.hour, one.bound)
		same(t, one.name, one.want, many, code)
	}
	many, code := impl.FindsNeeded(snake(t, 12), snake(t, 1), 10, impl.TdEbb, 11, 1000)
	same(t, "great numbers", "2 0", many, code)
}

// TestGreatGain has all parts of MaxHours on one beach, and one part with the
// other sea.
func TestGreatGain(t *testing.T) {
	all, least := snake(t, 12), snake(t, 1)
	end := []impl.Find{{Beach: 23, Hour: 14}}
	gain, one := impl.ExpectedGain(all, least, 4, impl.TdFlood, 14)
	many, two := impl.FindsNeeded(all, least, 4, impl.TdFlood, 14, 1000)
	more, three := impl.ScoreOf(all, 4, impl.TdFlood, end)
	less, four := impl.ScoreOf(least, 4, impl.TdFlood, end)
	same(t, "great", fmt.Sprint(803*power(14), " 0 2 0 5 0 -798 0"), gain, one, many, two, more, three, less, four)
}

func TestDifferingSpots(t *testing.T) {
	for i, c := range manyMaps() {
		got, code := impl.DifferingSpots(c.a, c.b)
		if want := spotsByHand(c.a, c.b); !impl.SameSpots(got, want) || code != impl.OK {
			t.Fatalf("%d, %v: %v %d, want %v", i, c, got, code, want)
		}
	}
	a, b := eastBy(t, 5), eastBy(t, 6)
	list, code := impl.DifferingSpots(a, b)
	same(t, "all", "[{0 0} {0 1} {0 6} {0 7} {0 8} {1 0} {1 1} {1 6} {1 7} {1 8}] 0", list, code)
	list, code = impl.DifferingSpots(a, a)
	same(t, "none", "0 0", len(list), code)
	b = a
	b.Tides[impl.TdEbb][1], b.Tides[impl.TdFlood][8] = impl.Chances{12}, impl.Chances{7, 5}
	list, code = impl.DifferingSpots(a, b)
	same(t, "the tide first", "[{0 8} {1 1}] 0", list, code)
	// 72 spots, which is all that there may be.
	list, code = impl.DifferingSpots(tidal(t), still(t, 6, 6, 0))
	same(t, "everywhere", "72 0 {0 0} {1 35}", len(list), code, list[0], list[71])
}

func TestRepairAt(t *testing.T) {
	for i, c := range manyMaps() {
		water, _ := waterAndLand(c.a)
		for tide := range int8(2) {
			x := impl.Spot{Tide: tide, Cell: int8(water[i%len(water)])}
			got, code := impl.RepairAt(c.a, c.b, x)
			if got != repairByHand(c.a, c.b, x) || code != impl.OK {
				t.Fatalf("%d, %v, %v: %v %d", i, c, x, got, code)
			}
		}
	}
	a, b := eastBy(t, 5), eastBy(t, 6)
	got, code := impl.RepairAt(a, b, impl.Spot{Tide: impl.TdEbb, Cell: 8})
	want := a
	want.Tides[impl.TdEbb][8] = impl.Chances{6, 0, 6}
	same(t, "the last cell", "true 0", got == want, code)
	got, code = impl.RepairAt(a, a, impl.Spot{Tide: impl.TdFlood, Cell: 1})
	same(t, "nothing to repair", "true 0", got == a, code)
}

func TestSameSpots(t *testing.T) {
	list := spots(0, 1, 1, 2)
	for _, one := range []struct {
		other []impl.Spot
		want  bool
	}{
		{spots(0, 1, 1, 2), true},
		{spots(0, 1), false},
		{spots(1, 2, 0, 1), false},
		{spots(0, 1, 1, 3), false},
		{spots(0, 1, 0, 2), false},
		{spots(0, 1, 1, 2, 0, 0), false},
		{nil, false},
	} {
		if impl.SameSpots(list, one.other) != one.want || impl.SameSpots(one.other, list) != one.want {
			t.Errorf("%v and %v: %v is wrong", list, one.other, !one.want)
		}
	}
	if !impl.SameSpots(nil, []impl.Spot{}) || !impl.SameSpots(nil, nil) || !impl.SameSpots(spots(-128, 127), spots(-128, 127)) {
		t.Error("spots are as themselves, valid or not, and all that are empty are the same")
	}
	long := make([]impl.Spot, 250000)
	other := append([]impl.Spot{}, long...)
	other[249999].Tide = 1
	if impl.SameSpots(long, other) {
		t.Error("long lists are compared to their ends")
	}
}
