package tests

import (
	"math"
	"math/rand"
	"slices"
	"testing"

	"loop.example/g01300/impl"
)

// spreadsToTry returns spreads of all kinds, valid for a sea or not.
func spreadsToTry(s impl.Sea) []impl.Spread {
	hard := impl.Spread{Begin: -128, Hours: 127, Bottles: math.MinInt64, Out: math.MaxInt64}
	for cell := range hard.At {
		hard.At[cell] = math.MinInt64 + int64(cell)
	}
	list := []impl.Spread{{}, hard, {Bottles: 1, Out: 1}, {Bottles: 1, At: [36]int64{1}}, {Bottles: 1, At: [36]int64{3: 1}}}
	if impl.ValidSea(s) {
		list = append(list, manySpreads(s)...)
	}
	return list
}

// callsOfDrift returns calls of all functions of chapter 2 with a sea.
func callsOfDrift(s impl.Sea) []call {
	var list []call
	add := func(name string, run func() []any) { list = append(list, call{name, run}) }
	spreads := spreadsToTry(s)
	for i, x := range spreads {
		y := spreads[(i+1)%len(spreads)]
		add("ValidSpread", func() []any { return []any{impl.ValidSpread(s, x)} })
		add("DriftHour", func() []any { x, c := impl.DriftHour(s, x); return []any{x, c} })
		add("AfloatIn", func() []any { x, c := impl.AfloatIn(s, x); return []any{x, c} })
		add("StrandedIn", func() []any { x, c := impl.StrandedIn(s, x); return []any{x, c} })
		add("LostShare", func() []any { x, c := impl.LostShare(s, x); return []any{x, c} })
		add("LikeliestCell", func() []any { x, y, c := impl.LikeliestCell(s, x); return []any{x, y, c} })
		add("MeanPlace", func() []any { x, y, c := impl.MeanPlace(s, x); return []any{x, y, c} })
		add("AddSpreads", func() []any { x, c := impl.AddSpreads(s, x, x); return []any{x, c} })
		add("AddSpreads", func() []any { x, c := impl.AddSpreads(s, x, y); return []any{x, c} })
		add("SpreadText", func() []any { return []any{impl.SpreadText(s, x)} })
		add("ReadSpread", func() []any { x, c := impl.ReadSpread(s, impl.SpreadText(s, x)); return []any{x, c} })
		for _, n := range hardNumbers {
			add("DriftHours", func() []any { x, c := impl.DriftHours(s, x, n); return []any{x, c} })
			add("ShareIn", func() []any { x, c := impl.ShareIn(s, x, uint64(n)); return []any{x, c} })
		}
	}
	for _, n := range hardNumbers {
		add("FirstBeach", func() []any { x, y, c := impl.FirstBeach(s, []int64{0, n, -1}); return []any{x, y, c} })
		for _, m := range hardNumbers {
			add("SpreadOver", func() []any { x, c := impl.SpreadOver(s, uint64(n), m); return []any{x, c} })
		}
	}
	return append(list, callsOfBottles(s)...)
}

// callsOfBottles returns calls of the functions with three and more numbers:
// two of them are any ones, the others good.
func callsOfBottles(s impl.Sea) []call {
	var list []call
	add := func(name string, run func() []any) { list = append(list, call{name, run}) }
	for _, n := range hardNumbers {
		for _, m := range hardNumbers {
			for _, a := range [][3]int64{{n, m, 1}, {n, 1, m}, {0, n, m}} {
				seed := uint32(n + m)
				add("SpreadAt", func() []any { x, c := impl.SpreadAt(s, a[0], a[1], a[2]); return []any{x, c} })
				add("DriftBottle", func() []any { x, y, c := impl.DriftBottle(s, a[0], a[1], a[2], seed); return []any{x, y, c} })
			}
			add("CountDrifts", func() []any { x, y, z, c := impl.CountDrifts(s, n, 1, 3, 7, m); return []any{x, y, z, c} })
			add("CountDrifts", func() []any { x, y, z, c := impl.CountDrifts(s, 0, n, m, 7, 3); return []any{x, y, z, c} })
		}
	}
	return list
}

// callsOfShares returns calls of the functions of chapter 2 without a sea.
func callsOfShares() []call {
	var list []call
	add := func(name string, run func() []any) { list = append(list, call{name, run}) }
	for _, n := range hardNumbers {
		add("PartsAfter", func() []any { x, c := impl.PartsAfter(n); return []any{x, c} })
		for _, m := range hardNumbers {
			a, b := impl.Share{P: n, Q: m}, impl.Share{P: m, Q: 7}
			add("CompareShares", func() []any { x, c := impl.CompareShares(a, b); return []any{x, c} })
			add("CompareShares", func() []any { x, c := impl.CompareShares(b, a); return []any{x, c} })
		}
	}
	return list
}

// TestPromise1Path looks at the path behind FirstBeach, and at the unused
// capacity behind it, and whether two paths share memory.
func TestPromise1Path(t *testing.T) {
	s := eastward(t)
	memory := []int64{0, 1, 2, 2, 77, 78}
	before := slices.Clone(memory)
	cell, index, code := impl.FirstBeach(s, memory[:4])
	same(t, "beach", "2 2 0", cell, index, code)
	if !slices.Equal(memory, before) {
		t.Errorf("the path has been changed: %v", memory)
	}
	one, _, _ := impl.DriftBottle(s, 0, 0, 5, 1)
	want := slices.Clone(one)
	two, _, _ := impl.DriftBottle(s, 0, 0, 5, 1)
	for i := range one[:cap(one)] {
		one[:cap(one)][i] = -9
	}
	if !slices.Equal(two, want) {
		t.Errorf("two paths share memory: %v", two)
	}
}

// checkSum fails unless all numbers of a spread sum to all bottles.
func checkSum(t *testing.T, s impl.Sea, x impl.Spread) {
	t.Helper()
	sum := x.Out
	for cell, much := range x.At {
		if much < 0 || much > 0 && !slices.Contains(numbersOfCells(int(s.Wide), int(s.High)), cell) {
			t.Fatalf("%d in the cell %d: %v", much, cell, x)
		}
		sum += much
	}
	if x.Out < 0 || sum != x.Bottles*power(int(x.Hours)) || !impl.ValidSpread(s, x) {
		t.Fatalf("%d in all: %v", sum, x)
	}
}

// TestPromise3Sums drifts spreads to the last hour, and sums what is afloat,
// stranded and lost.
func TestPromise3Sums(t *testing.T) {
	for _, s := range manySeas() {
		for _, x := range manySpreads(s) {
			for x.Hours < 14 {
				next, code := impl.DriftHour(s, x)
				if code != impl.OK || next.Begin != x.Begin || next.Bottles != x.Bottles || next.Hours != x.Hours+1 {
					t.Fatalf("%v: %v %d", x, next, code)
				}
				x = next
				checkSum(t, s, x)
			}
			afloat, one := impl.AfloatIn(s, x)
			stranded, two := impl.StrandedIn(s, x)
			if one != impl.OK || two != impl.OK || afloat+stranded+x.Out != x.Bottles*power(14) {
				t.Fatalf("%d afloat, %d stranded: %v", afloat, stranded, x)
			}
		}
	}
}

// TestPromise3Added adds spreads before they drift and behind it.
func TestPromise3Added(t *testing.T) {
	r := rand.New(rand.NewSource(3))
	for _, s := range manySeas()[:100] {
		for hours := range 15 {
			begin := r.Intn(2)
			x := randomSpread(r, s, begin, hours, 1+r.Intn(500))
			y := randomSpread(r, s, begin, hours, 1+r.Intn(500))
			more := int64(r.Intn(15 - hours))
			sum, one := impl.AddSpreads(s, x, y)
			checkSum(t, s, sum)
			added, two := impl.AddSpreads(s, drifted(t, s, x, more), drifted(t, s, y, more))
			if one != impl.OK || two != impl.OK || added != drifted(t, s, sum, more) {
				t.Fatalf("%v and %v for %d hours: %v", x, y, more, added)
			}
			turned, three := impl.AddSpreads(s, y, x)
			if three != impl.OK || turned != sum {
				t.Fatalf("%v and %v turned: %v", x, y, turned)
			}
		}
	}
}

// plus adds two spreads, of which the first one may be zero.
func plus(t *testing.T, s impl.Sea, x, y impl.Spread) impl.Spread {
	t.Helper()
	if x == (impl.Spread{}) {
		return y
	}
	sum, code := impl.AddSpreads(s, x, y)
	if code != impl.OK {
		t.Fatalf("AddSpreads: code %d", code)
	}
	return sum
}

// TestPromise3Over makes SpreadOver of spreads of single cells.
func TestPromise3Over(t *testing.T) {
	r := rand.New(rand.NewSource(4))
	for _, s := range manySeas() {
		var cells uint64
		var sum impl.Spread
		for _, cell := range numbersOfCells(int(s.Wide), int(s.High)) {
			if r.Intn(2) == 0 {
				continue
			}
			sum = plus(t, s, sum, at(t, s, int64(cell), 1, impl.TdEbb))
			cells |= bits(cell)
		}
		over, code := impl.SpreadOver(s, cells, impl.TdEbb)
		if cells == 0 {
			same(t, "none", "4", code)
			continue
		}
		checkSum(t, s, over)
		if over != sum || code != impl.OK {
			t.Fatalf("%v %d, want %v", over, code, sum)
		}
	}
}

// TestPromise4Paths holds each cell of a path against the spread of its hour,
// and looks whether it stays on land.
func TestPromise4Paths(t *testing.T) {
	for i, s := range manySeas() {
		for _, cell := range numbersOfCells(int(s.Wide), int(s.High)) {
			begin := int64(i+cell) % 2
			path, _, code := impl.DriftBottle(s, int64(cell), begin, 14, uint32(i*36+cell))
			if code != impl.OK || len(path) != 15 || path[0] != int64(cell) {
				t.Fatalf("%v %d", path, code)
			}
			x := at(t, s, int64(cell), 1, begin)
			for hour, now := range path {
				if now != impl.Lost && x.At[now] == 0 || now == impl.Lost && x.Out == 0 {
					t.Fatalf("nothing is at %d in the hour %d: %v", now, hour, path)
				}
				if hour == 14 {
					break
				}
				if (now == impl.Lost || s.Land>>now&1 == 1) && path[hour+1] != now {
					t.Fatalf("%d is left: %v", now, path)
				}
				x = drifted(t, s, x, 1)
			}
			checkFirstBeach(t, s, path)
		}
	}
}

// checkFirstBeach fails unless FirstBeach tells where a path stays.
func checkFirstBeach(t *testing.T, s impl.Sea, path []int64) {
	t.Helper()
	beach, index, code := impl.FirstBeach(s, path)
	end := path[len(path)-1]
	if end == impl.Lost || s.Land>>end&1 == 0 {
		same(t, "no beach", "0 0 6", beach, index, code)
		return
	}
	if code != impl.OK || beach != end || slices.Index(path, end) != int(index) {
		t.Fatalf("%v: %d %d %d", path, beach, index, code)
	}
}

// TestPromise4Counts holds what is counted against the spread, and the seed
// against that of bottles one by one.
func TestPromise4Counts(t *testing.T) {
	for i, s := range manySeas() {
		cells := numbersOfCells(int(s.Wide), int(s.High))
		cell, begin, hours := int64(cells[i%len(cells)]), int64(i%2), int64(i%15)
		x := drifted(t, s, at(t, s, cell, 1, begin), hours)
		counts, gone, seed, code := impl.CountDrifts(s, cell, begin, hours, uint32(i), 300)
		sum := gone
		for end, count := range counts {
			sum += count
			if count < 0 || count > 0 && x.At[end] == 0 {
				t.Fatalf("%d bottles at %d: %v", count, end, x)
			}
		}
		if code != impl.OK || gone > 0 && x.Out == 0 || sum != 300 {
			t.Fatalf("%v %d %d: %v", counts, gone, code, x)
		}
		behind := uint32(i)
		for range 300 {
			_, behind, _ = impl.DriftBottle(s, cell, begin, hours, behind)
		}
		if behind != seed {
			t.Fatalf("the seed is %d, want %d", seed, behind)
		}
	}
}
