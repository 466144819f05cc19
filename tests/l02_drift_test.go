package tests

import (
	"math"
	"testing"

	"loop.example/g01300/impl"
)

func TestDriftExample(t *testing.T) {
	s := eastward(t)
	x, c1 := impl.SpreadAt(s, 0, 1, impl.TdFlood)
	a, c2 := impl.DriftHour(s, x)
	b, c3 := impl.DriftHours(s, x, 2)
	same(t, "codes", "0 0 0", c1, c2, c3)
	if a != (impl.Spread{Hours: 1, Bottles: 1, At: [36]int64{7, 5}}) {
		t.Errorf("behind an hour: %v", a)
	}
	if b != (impl.Spread{Hours: 2, Bottles: 1, At: [36]int64{49, 70, 25}}) {
		t.Errorf("behind two hours: %v", b)
	}
	stranded, c4 := impl.ShareIn(s, b, bits(2))
	east, south, c5 := impl.MeanPlace(s, b)
	y, c6 := impl.SpreadAt(s, 8, 1, impl.TdFlood)
	z, c7 := impl.DriftHour(s, y)
	lost, c8 := impl.LostShare(s, z)
	same(t, "shares", "{25 144} 0 {5 6} {0 1} 0 0 0 {5 12} 0", stranded, c4, east, south, c5, c6, c7, lost, c8)
}

func TestDriftConstants(t *testing.T) {
	same(t, "limits", "14 1000 2000", impl.MaxHours, impl.MaxBottles, impl.MaxDrifts)
}

func TestPartsAfter(t *testing.T) {
	for hours := range 15 {
		parts, code := impl.PartsAfter(int64(hours))
		if parts != power(hours) || code != impl.OK {
			t.Errorf("%d: %d %d", hours, parts, code)
		}
	}
	parts, _ := impl.PartsAfter(14)
	same(t, "most", "1283918464548864", parts)
	for _, hours := range badHours {
		parts, code := impl.PartsAfter(hours)
		same(t, "range", "0 2", parts, code)
	}
}

// badHours and badBottles are out of range; some are so only behind a
// narrowing.
var (
	badHours   = []int64{-1, 15, 256, 270, 1 << 32, math.MinInt64, math.MaxInt64}
	badBottles = []int64{0, -1, 2001, 65536, 1<<32 + 1, math.MinInt64, math.MaxInt64}
)

func TestValidSpread(t *testing.T) {
	for _, s := range manySeas() {
		for _, x := range manySpreads(s) {
			if !impl.ValidSpread(s, x) {
				t.Fatalf("%v is valid for %v", x, s)
			}
		}
	}
	s := eastward(t)
	for name, x := range badSpreads(t) {
		if impl.ValidSpread(s, x) {
			t.Errorf("%s: is not valid", name)
		}
	}
	most := impl.Spread{Begin: 1, Hours: 14, Bottles: 1000, Out: 1000 * power(14)}
	if !impl.ValidSpread(s, most) || !impl.ValidSpread(s, impl.Spread{Bottles: 1, At: [36]int64{2: 1}}) {
		t.Error("spreads at the limits are valid")
	}
	for name, bad := range badSeas(t) {
		if impl.ValidSpread(bad, most) {
			t.Errorf("%s: no spread is valid for it", name)
		}
	}
}

func TestSpreadAt(t *testing.T) {
	s := eastward(t)
	for _, cell := range numbersOfCells(3, 2) {
		for begin := range int64(2) {
			for _, bottles := range []int64{1, 2, 999, 1000} {
				want := impl.Spread{Begin: int8(begin), Bottles: bottles}
				want.At[cell] = bottles
				x, code := impl.SpreadAt(s, int64(cell), bottles, begin)
				if x != want || code != impl.OK {
					t.Errorf("%d %d %d: %v %d", cell, bottles, begin, x, code)
				}
			}
		}
	}
}

func TestSpreadOver(t *testing.T) {
	s := eastward(t)
	x, code := impl.SpreadOver(s, bits(0, 2, 8), impl.TdEbb)
	if code != impl.OK || x != (impl.Spread{Begin: 1, Bottles: 3, At: [36]int64{0: 1, 2: 1, 8: 1}}) {
		t.Errorf("%v %d", x, code)
	}
	x, code = impl.SpreadOver(tidal(t), 1<<36-1, impl.TdFlood)
	same(t, "all", "0 0 0 36 1 1 0", code, x.Begin, x.Hours, x.Bottles, x.At[0], x.At[35], x.Out)
	x, code = impl.SpreadOver(s, 0, impl.TdFlood)
	same(t, "none", "4 true", code, x == impl.Spread{})
}

func TestDriftHour(t *testing.T) {
	for _, s := range manySeas() {
		for _, x := range manySpreads(s) {
			if x.Hours == 14 {
				continue
			}
			y, code := impl.DriftHour(s, x)
			if y != hourByHand(s, x) || code != impl.OK {
				t.Fatalf("%v, %v: %v %d", s, x, y, code)
			}
		}
	}
}

// TestTides tells both tides of the first three hours by numbers that are
// written out.
func TestTides(t *testing.T) {
	s := tidal(t)
	for _, want := range []struct {
		begin int64
		hours int64
		at    map[int]int64
	}{
		{impl.TdFlood, 1, map[int]int64{14: 3, 15: 9}},
		{impl.TdEbb, 1, map[int]int64{14: 2, 8: 5, 20: 5}},
		{impl.TdFlood, 2, map[int]int64{14: 6, 8: 15, 20: 15, 15: 18, 9: 45, 21: 45}},
		{impl.TdEbb, 2, map[int]int64{14: 6, 8: 15, 20: 15, 15: 18, 9: 45, 21: 45}},
		{impl.TdFlood, 3, map[int]int64{14: 18, 8: 45, 20: 45, 15: 108, 9: 270, 21: 270, 16: 162, 10: 405, 22: 405}},
	} {
		x := impl.Spread{Begin: int8(want.begin), Hours: int8(want.hours), Bottles: 1}
		for cell, much := range want.at {
			x.At[cell] = much
		}
		if got := drifted(t, s, at(t, s, 14, 1, want.begin), want.hours); got != x {
			t.Errorf("begin %d, %d hours: %v", want.begin, want.hours, got)
		}
	}
	// What is drifted already goes on with the tide of its own hour.
	x := impl.Spread{Begin: impl.TdEbb, Hours: 13, Bottles: 1, At: [36]int64{14: power(13)}}
	y, code := impl.DriftHour(s, x)
	same(t, "hour 13", "0 14", code, y.Hours)
	if y.At[14] != 3*power(13) || y.At[15] != 9*power(13) {
		t.Errorf("an odd hour behind ebb has flood: %v", y)
	}
}

func TestDriftOfLandAndLost(t *testing.T) {
	s := eastward(t)
	x := impl.Spread{Hours: 1, Bottles: 2, At: [36]int64{2: 5, 8: 12}, Out: 7}
	y, code := impl.DriftHour(s, x)
	if code != impl.OK || y != (impl.Spread{Hours: 2, Bottles: 2, At: [36]int64{2: 60, 8: 84}, Out: 84 + 60}) {
		t.Errorf("%v %d", y, code)
	}
	all := impl.Spread{Bottles: 1000, Out: 1000}
	y = drifted(t, s, all, 14)
	if y != (impl.Spread{Hours: 14, Bottles: 1000, Out: 1000 * power(14)}) {
		t.Errorf("what is lost is lost: %v", y)
	}
}

func TestDriftHours(t *testing.T) {
	for _, s := range manySeas()[:60] {
		for _, x := range manySpreads(s) {
			want := x
			for hours := int64(0); hours <= int64(14-x.Hours); hours++ {
				if got := drifted(t, s, x, hours); got != want {
					t.Fatalf("%d hours: %v, want %v", hours, got, want)
				}
				want = hourByHand(s, want)
			}
		}
	}
}

func TestDriftLimits(t *testing.T) {
	s := eastward(t)
	late := drifted(t, s, at(t, s, 0, 1000, 1), 14)
	bad := late
	bad.Out++
	_, one := impl.DriftHour(s, late)
	_, two := impl.DriftHours(s, late, 1)
	_, three := impl.DriftHours(s, late, 14)
	again, four := impl.DriftHours(s, late, 0)
	_, five := impl.DriftHour(s, bad)
	_, six := impl.DriftHours(s, drifted(t, s, at(t, s, 0, 1, 0), 9), 6)
	_, seven := impl.DriftHours(s, drifted(t, s, at(t, s, 0, 1, 0), 9), 5)
	same(t, "limits", "3 3 3 0 true 1 3 0", one, two, three, four, again == late, five, six, seven)
	for _, hours := range badHours {
		// There would be more than MaxHours, too, but the range is looked at first.
		x, one := impl.DriftHours(s, late, hours)
		_, two := impl.DriftHours(s, bad, hours)
		same(t, "range", "2 true 1", one, x == impl.Spread{}, two)
	}
}

func TestAfloatAndStranded(t *testing.T) {
	for _, s := range manySeas() {
		for _, x := range manySpreads(s) {
			var wet, dry int64
			for _, cell := range numbersOfCells(int(s.Wide), int(s.High)) {
				if s.Land&bits(cell) != 0 {
					dry += x.At[cell]
				} else {
					wet += x.At[cell]
				}
			}
			afloat, one := impl.AfloatIn(s, x)
			stranded, two := impl.StrandedIn(s, x)
			if afloat != wet || stranded != dry || one != impl.OK || two != impl.OK {
				t.Fatalf("%v, %v: %d %d %d %d", s, x, afloat, stranded, one, two)
			}
		}
	}
}

func TestShareIn(t *testing.T) {
	s := eastward(t)
	x := impl.Spread{Hours: 1, Bottles: 2, At: [36]int64{2: 6, 7: 2, 8: 8}, Out: 8}
	for _, one := range []struct {
		cells uint64
		want  string
	}{
		{0, "{0 1} 0"}, {bits(0), "{0 1} 0"}, {bits(2), "{1 4} 0"}, {bits(7), "{1 12} 0"}, {bits(2, 8), "{7 12} 0"},
		{bits(0, 1, 2, 6, 7, 8), "{2 3} 0"}, {bits(3), "{0 0} 2"}, {bits(2, 12), "{0 0} 2"}, {bits(36), "{0 0} 2"}, {bits(63), "{0 0} 2"}, {math.MaxUint64, "{0 0} 2"},
	} {
		share, code := impl.ShareIn(s, x, one.cells)
		same(t, "share", one.want, share, code)
	}
	lost, code := impl.LostShare(s, x)
	same(t, "lost", "{1 3} 0", lost, code)
	most := impl.Spread{Hours: 14, Bottles: 1000, At: [36]int64{1: 1000*power(14) - 1, 2: 1}}
	all, one := impl.ShareIn(s, most, bits(1, 2))
	least, two := impl.ShareIn(s, most, bits(2))
	none, three := impl.LostShare(s, most)
	same(t, "most", "{1 1} 0 {1 1283918464548864000} 0 {0 1} 0", all, one, least, two, none, three)
}

func TestLikeliestCell(t *testing.T) {
	s := eastward(t)
	for _, one := range []struct {
		at   map[int]int64
		want string
	}{
		{map[int]int64{0: 12}, "0 {1 1} 0"},
		{map[int]int64{8: 12}, "8 {1 1} 0"},
		{map[int]int64{2: 1}, "2 {1 12} 0"},
		{map[int]int64{1: 3, 7: 4, 8: 4}, "7 {1 3} 0"},
		{map[int]int64{0: 3, 8: 3}, "0 {1 4} 0"},
		{map[int]int64{}, "0 {0 1} 0"},
	} {
		x := impl.Spread{Hours: 1, Bottles: 1, Out: 12}
		for cell, much := range one.at {
			x.At[cell] = much
			x.Out -= much
		}
		cell, share, code := impl.LikeliestCell(s, x)
		same(t, "cell", one.want, cell, share, code)
	}
}

func TestMeanPlace(t *testing.T) {
	s := eastward(t)
	x := impl.Spread{Hours: 1, Bottles: 1, At: [36]int64{2: 3, 6: 1, 7: 2}, Out: 6}
	east, south, code := impl.MeanPlace(s, x)
	same(t, "mean", "{4 3} {1 2} 0", east, south, code)
	most := impl.Spread{Hours: 14, Bottles: 1000, At: [36]int64{34: 1, 35: 1000*power(14) - 1}}
	east, south, code = impl.MeanPlace(tidal(t), most)
	same(t, "most", "{6419592322744319999 1283918464548864000} {5 1} 0", east, south, code)
	one := impl.Spread{Hours: 14, Bottles: 1000, At: [36]int64{35: 1}, Out: 1000*power(14) - 1}
	east, south, code = impl.MeanPlace(tidal(t), one)
	same(t, "one", "{5 1} {5 1} 0", east, south, code)
	east, south, code = impl.MeanPlace(s, impl.Spread{Bottles: 9, Out: 9})
	same(t, "all lost", "{0 0} {0 0} 6", east, south, code)
	east, south, code = impl.MeanPlace(s, impl.Spread{Bottles: 9, Out: 8})
	same(t, "invalid", "{0 0} {0 0} 1", east, south, code)
}

func TestAddSpreads(t *testing.T) {
	s := eastward(t)
	x := impl.Spread{Begin: 1, Hours: 1, Bottles: 1, At: [36]int64{2: 3, 6: 1}, Out: 8}
	y := impl.Spread{Begin: 1, Hours: 1, Bottles: 2, At: [36]int64{2: 9, 7: 10}, Out: 5}
	sum, code := impl.AddSpreads(s, x, y)
	if code != impl.OK || sum != (impl.Spread{Begin: 1, Hours: 1, Bottles: 3, At: [36]int64{2: 12, 6: 1, 7: 10}, Out: 13}) {
		t.Errorf("%v %d", sum, code)
	}
	most := drifted(t, s, at(t, s, 0, 500, 0), 14)
	sum, code = impl.AddSpreads(s, most, most)
	same(t, "1000 bottles", "0 1000 true", code, sum.Bottles, impl.ValidSpread(s, sum))
}

func TestAddSpreadsErrors(t *testing.T) {
	s := eastward(t)
	half, more := at(t, s, 0, 500, 0), at(t, s, 1, 501, 0)
	ebb, later := at(t, s, 0, 501, 1), drifted(t, s, at(t, s, 0, 501, 0), 2)
	bad := ebb
	bad.Out++
	_, one := impl.AddSpreads(s, half, more)
	_, two := impl.AddSpreads(s, more, half)
	_, three := impl.AddSpreads(s, half, ebb)
	_, four := impl.AddSpreads(s, later, half)
	_, five := impl.AddSpreads(s, half, bad)
	_, six := impl.AddSpreads(s, bad, half)
	sum, seven := impl.AddSpreads(s, at(t, s, 0, 1000, 0), at(t, s, 0, 1000, 0))
	same(t, "errors", "3 3 4 4 1 1 3 true", one, two, three, four, five, six, seven, sum == impl.Spread{})
}

func TestCompareShares(t *testing.T) {
	const most = 1000000000
	for _, one := range []struct {
		a, b impl.Share
		want string
	}{
		{impl.Share{P: 1, Q: 2}, impl.Share{P: 2, Q: 4}, "0 0"},
		{impl.Share{P: 1, Q: 3}, impl.Share{P: 1, Q: 2}, "-1 0"},
		{impl.Share{P: 5, Q: 1}, impl.Share{P: 9, Q: 2}, "1 0"},
		{impl.Share{P: 0, Q: 1}, impl.Share{P: 0, Q: most}, "0 0"},
		{impl.Share{P: most, Q: most}, impl.Share{P: most - 1, Q: most}, "1 0"},
		{impl.Share{P: most - 1, Q: most}, impl.Share{P: most - 2, Q: most - 1}, "1 0"},
		{impl.Share{P: 1, Q: most}, impl.Share{P: most, Q: 1}, "-1 0"},
		{impl.Share{P: 1}, impl.Share{P: 1, Q: 1}, "0 1"},
		{impl.Share{P: -1, Q: 1}, impl.Share{P: 1, Q: 1}, "0 1"},
		{impl.Share{P: 1, Q: -1}, impl.Share{P: 1, Q: 1}, "0 1"},
		{impl.Share{P: most + 1, Q: 1}, impl.Share{P: 1, Q: 1}, "0 1"},
		{impl.Share{P: 1, Q: most + 1}, impl.Share{P: 1, Q: 1}, "0 1"},
		{impl.Share{P: math.MinInt64, Q: math.MaxInt64}, impl.Share{P: 1, Q: 1}, "0 1"},
		{impl.Share{}, impl.Share{}, "0 1"},
	} {
		got, code := impl.CompareShares(one.a, one.b)
		same(t, "compared", one.want, got, code)
		back, again := impl.CompareShares(one.b, one.a)
		if back != -got || again != code {
			t.Errorf("%v and %v turned: %d %d", one.a, one.b, back, again)
		}
	}
}

func TestSpreadRanges(t *testing.T) {
	s := eastward(t)
	for _, cell := range badCells {
		_, code := impl.SpreadAt(s, cell, 1, 0)
		same(t, "no cell", "2", code)
	}
	for _, tide := range badTides {
		_, one := impl.SpreadAt(s, 0, 1, tide)
		_, two := impl.SpreadOver(s, 1, tide)
		_, three := impl.SpreadOver(s, 0, tide)
		same(t, "no tide", "2 2 2", one, two, three)
	}
	for _, bottles := range append(badBottles, 1001) {
		_, code := impl.SpreadAt(s, 0, bottles, 0)
		same(t, "bottles", "2", code)
	}
	for _, bit := range []int{3, 5, 9, 12, 35, 36, 63} {
		_, code := impl.SpreadOver(s, bits(0, bit), 0)
		same(t, "no cells", "2", code)
	}
}

// TestSpreadsInvalidFirst gives each function a spread or a sea that is not
// valid, together with arguments that are beyond the range.
func TestSpreadsInvalidFirst(t *testing.T) {
	check := func(name string, s impl.Sea, x impl.Spread) {
		t.Helper()
		_, c1 := impl.DriftHour(s, x)
		_, c2 := impl.DriftHours(s, x, 99)
		_, c3 := impl.AfloatIn(s, x)
		_, c4 := impl.StrandedIn(s, x)
		_, c5 := impl.ShareIn(s, x, math.MaxUint64)
		_, c6 := impl.LostShare(s, x)
		_, _, c7 := impl.LikeliestCell(s, x)
		_, _, c8 := impl.MeanPlace(s, x)
		_, c9 := impl.AddSpreads(s, x, x)
		same(t, name, "1 1 1 1 1 1 1 1 1 true", c1, c2, c3, c4, c5, c6, c7, c8, c9, impl.SpreadText(s, x) == "")
	}
	for name, x := range badSpreads(t) {
		check(name, eastward(t), x)
	}
	for name, s := range badSeas(t) {
		check(name, s, impl.Spread{Bottles: 1, At: [36]int64{1}})
		_, one := impl.SpreadAt(s, 99, 0, 9)
		_, two := impl.SpreadOver(s, math.MaxUint64, 9)
		_, three := impl.SpreadOver(s, 0, 0)
		same(t, name, "1 1 1", one, two, three)
	}
}
