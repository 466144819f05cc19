package tests

import (
	"math/big"
	"math/rand"
	"slices"
	"testing"

	"loop.example/g01300/impl"
)

// boundsToTry returns bounds of all kinds, a proof or not.
func boundsToTry(s impl.Sea) []impl.Bounds {
	list := []impl.Bounds{nil, {}, {{}}, {{1}}, make(impl.Bounds, 15), make(impl.Bounds, 16), {{-1 << 63}, {1<<63 - 1}}, {{2: 1 << 62}, {1: 1 << 62}}}
	if impl.ValidSea(s) {
		for hours := range int64(15) {
			b, _ := impl.BoundsFor(s, 0, hours%2, hours)
			list = append(list, b)
		}
	}
	return list
}

// callsOfOrigins returns calls of all functions of chapter 4.
func callsOfOrigins(s impl.Sea) []call {
	var list []call
	add := func(name string, run func() []any) { list = append(list, call{name, run}) }
	lists := listsToTry(s)
	if impl.ValidSea(s) && s.Land != 0 {
		lists = append(lists, youngFinds(s)...)
	}
	for _, a := range lists {
		add("LikelierTide", func() []any { x, c := impl.LikelierTide(s, a); return []any{x, c} })
		for _, n := range []int64{-1 << 63, -1, 0, 1, 2, 256, 1<<63 - 1} {
			add("WeightsOf", func() []any { x, c := impl.WeightsOf(s, a, n); return []any{x, c} })
			add("OriginShares", func() []any { x, c := impl.OriginShares(s, a, n); return []any{x, c} })
			add("LikeliestOrigin", func() []any { x, y, c := impl.LikeliestOrigin(s, a, n); return []any{x, y, c} })
			add("CommonOrigins", func() []any { x, c := impl.CommonOrigins(s, a, n); return []any{x, c} })
			add("OddFind", func() []any { x, c := impl.OddFind(s, a, n); return []any{x, c} })
		}
	}
	bounds := boundsToTry(s)
	for i, b := range bounds {
		other := bounds[(i+1)%len(bounds)]
		add("SameBounds", func() []any { return []any{impl.SameBounds(b, other)} })
		for _, n := range hardNumbers {
			add("CheckBounds", func() []any { x, c := impl.CheckBounds(s, n, int64(i%2), b); return []any{x, c} })
			add("CheckBounds", func() []any { x, c := impl.CheckBounds(s, 0, n, b); return []any{x, c} })
			add("ProvedBound", func() []any { x, c := impl.ProvedBound(s, n, 0, int64(i%2), b); return []any{x, c} })
			add("ProvedBound", func() []any { x, c := impl.ProvedBound(s, 0, n, int64(i%2), b); return []any{x, c} })
		}
	}
	return append(list, callsOfPaths(s)...)
}

// callsOfPaths returns calls of the functions with paths and their numbers:
// two of them are any ones, the others good.
func callsOfPaths(s impl.Sea) []call {
	var list []call
	add := func(name string, run func() []any) { list = append(list, call{name, run}) }
	_, land := waterAndLand(s)
	beach := append(land, 2)[0]
	add("PathParts", func() []any { x, c := impl.PathParts(s, nil, 0); return []any{x, c} })
	for _, n := range hardNumbers {
		for _, m := range hardNumbers {
			add("PathParts", func() []any { x, c := impl.PathParts(s, []int64{n, m}, 0); return []any{x, c} })
			add("PathParts", func() []any { x, c := impl.PathParts(s, []int64{0, n, 0}, m); return []any{x, c} })
			add("PathParts", func() []any { x, c := impl.PathParts(s, repeated64(n, int(m&31)), 1); return []any{x, c} })
			for _, a := range [][4]int64{{n, 0, m, 0}, {0, 1, n, m}, {n, m, 14, 1}, {1, 0, m, n}} {
				add("LikeliestPath", func() []any {
					x, y, c := impl.LikeliestPath(s, a[0], a[1], a[2], a[3])
					return []any{x, y, c}
				})
				add("CountPaths", func() []any { x, c := impl.CountPaths(s, a[0], a[1], a[2], a[3]); return []any{x, c} })
			}
			add("PartsBack", func() []any { x, c := impl.PartsBack(s, n, 1, m); return []any{x, c} })
			add("PartsBack", func() []any { x, c := impl.PartsBack(s, beach, n, m); return []any{x, c} })
			add("BoundsFor", func() []any { x, c := impl.BoundsFor(s, n, m, 3); return []any{x, c} })
			add("BoundsFor", func() []any { x, c := impl.BoundsFor(s, 0, n, m); return []any{x, c} })
		}
	}
	return list
}

// TestPromise1Origins looks at finds, paths and bounds behind all calls, at the
// unused capacity behind them, and whether results share memory.
func TestPromise1Origins(t *testing.T) {
	for i, s := range coastalSeas()[:40] {
		water, _ := waterAndLand(s)
		cell, begin := water[i%len(water)], int64(i%2)
		for _, list := range youngFinds(s) {
			finds, memory := withCapacity(list)
			before := slices.Clone(memory)
			impl.WeightsOf(s, finds, begin)
			impl.OriginShares(s, finds, begin)
			impl.LikeliestOrigin(s, finds, begin)
			impl.CommonOrigins(s, finds, begin)
			impl.LikelierTide(s, finds)
			impl.OddFind(s, finds, begin)
			if !slices.Equal(memory, before) {
				t.Fatalf("%v has been changed: %v", before, memory)
			}
		}
		b, other := boundsBy(t, s, cell, begin, 6), boundsBy(t, s, cell, begin, 6)
		want := slices.Clone(b)
		room := append(slices.Clone(b), [36]int64{1: 77}, [36]int64{2: 78})
		full := slices.Clone(room)
		impl.CheckBounds(s, cell, begin, room[:len(b)])
		impl.ProvedBound(s, cell, cell, begin, room[:len(b)])
		impl.SameBounds(room[:len(b)], other)
		for row := range b[:cap(b)] {
			b[:cap(b)][row] = [36]int64{-9, -9}
		}
		if !slices.Equal(room, full) || !slices.Equal(other, want) {
			t.Fatalf("bounds have been changed")
		}
		path, _, code := impl.LikeliestPath(s, cell, begin, 5, cell)
		if code == impl.OK {
			checkPathMemory(t, s, path, cell, begin)
		}
	}
}

// checkPathMemory has a path in the middle of a larger memory.
func checkPathMemory(t *testing.T, s impl.Sea, path []int64, cell, begin int64) {
	t.Helper()
	memory := slices.Concat([]int64{77}, path, []int64{78, 79})
	before := slices.Clone(memory)
	impl.PathParts(s, memory[1:1+len(path)], begin)
	again, _, _ := impl.LikeliestPath(s, cell, begin, 5, cell)
	for i := range path[:cap(path)] {
		path[:cap(path)][i] = -9
	}
	if !slices.Equal(memory, before) || !slices.Equal(again, before[1:1+len(path)]) {
		t.Fatalf("%v has been changed: %v, %v", before, memory, again)
	}
}

// TestPromise1Panics has a path that cannot be between others, in all of its
// hours: it is told as a code each time, and no call changes another one.
func TestPromise1Panics(t *testing.T) {
	s := eastward(t)
	for long := 1; long < 15; long++ {
		for at := range long {
			path := repeated64(0, long+1)
			for i := at + 1; i <= long; i++ {
				path[i] = 8
			}
			parts, one := impl.PathParts(s, path, int64(at%2))
			good, two := impl.PathParts(s, path[:at+1], int64(at%2))
			if parts != 0 || one != impl.ErrProof || two != impl.OK || good != alongByHand(s, path[:at+1], 0) {
				t.Fatalf("%v: %d %d, then %d %d", path, parts, one, good, two)
			}
		}
	}
}

// TestPromise7Back holds what is told backward against spreads that drift.
func TestPromise7Back(t *testing.T) {
	for i, s := range coastalSeas() {
		water, land := waterAndLand(s)
		begin := int64(i % 2)
		for hours := range int64(15) {
			beach := land[(i+int(hours))%len(land)]
			back, code := impl.PartsBack(s, beach, begin, hours)
			if code != impl.OK {
				t.Fatalf("code %d", code)
			}
			all := power(int(hours))
			for cell, parts := range back {
				want := int64(0)
				switch {
				case int64(cell) == beach:
					want = all
				case slices.Contains(water, int64(cell)) && (cell+i)%4 == 0:
					want = drifted(t, s, at(t, s, int64(cell), 1, begin), hours).At[beach]
				case slices.Contains(water, int64(cell)):
					continue
				}
				if parts != want {
					t.Fatalf("%v, %d, %d: %d from %d to %d, want %d", s, begin, hours, parts, cell, beach, want)
				}
			}
		}
	}
}

// TestPromise7Finds holds weights, going backward, against what strands, going
// forward: each find has an origin from which it can be, if the weights say so.
func TestPromise7Finds(t *testing.T) {
	some := 0
	for i, s := range coastalSeas() {
		water, _ := waterAndLand(s)
		for _, list := range youngFinds(s) {
			begin := int64(i % 2)
			weights, one := impl.WeightsOf(s, list, begin)
			common, two := impl.CommonOrigins(s, list, begin)
			same(t, "codes", "0 0", one, two)
			for cell, weight := range weights {
				if !slices.Contains(water, int64(cell)) {
					same(t, "no water", "0 true", weight, common&bits(cell) == 0)
				}
			}
			for _, cell := range water {
				none, _ := impl.ImpossibleFinds(s, cell, begin, list)
				can := common&bits(int(cell)) != 0
				if can != (len(none) == 0) || can != (weights[cell] > 0) {
					t.Fatalf("%v, %v: %d is an origin: %v, but %v cannot be", s, list, cell, can, none)
				}
				if len(list) == 1 {
					in, _ := impl.StrandsIn(s, cell, begin, int64(list[0].Hour))
					same(t, "alone", "true", in[list[0].Beach] == weights[cell])
				}
			}
			if len(list) > 1 && common != 0 {
				some++
			}
		}
	}
	if some < 100 {
		t.Errorf("only %d lists of finds have an origin", some)
	}
}

// TestPromise7Bottles follows bottles of a cell: it is among the origins of
// all their finds, and no find is odd.
func TestPromise7Bottles(t *testing.T) {
	for i, s := range coastalSeas() {
		water, _ := waterAndLand(s)
		cell, begin := water[i%len(water)], int64(i%2)
		list, _, _ := impl.FindsOfBottles(s, cell, begin, 3, uint32(i), 5)
		common, one := impl.CommonOrigins(s, list, begin)
		_, two := impl.OddFind(s, list, begin)
		_, three := impl.LikelierTide(s, list)
		same(t, "codes", "0 4 0 true", one, two, three, common&bits(int(cell)) != 0)
	}
}

// TestPromise8 holds the shares of origins against the weights, and sums them.
func TestPromise8(t *testing.T) {
	found := 0
	for i, s := range coastalSeas() {
		for _, list := range youngFinds(s) {
			begin := int64(i % 2)
			weights, _ := impl.WeightsOf(s, list, begin)
			all := sumByHand(weights)
			shares, code := impl.OriginShares(s, list, begin)
			best, most, bestCode := impl.LikeliestOrigin(s, list, begin)
			if all == 0 {
				same(t, "none", "6 6", code, bestCode)
				continue
			}
			found++
			same(t, "codes", "0 0", code, bestCode)
			sum := new(big.Rat)
			for cell, share := range shares {
				own := fractionOf(t, share)
				if own.Cmp(big.NewRat(weights[cell], all)) != 0 || own.Cmp(fractionOf(t, most)) > 0 {
					t.Fatalf("%v, %v: %v at %d, most %v: %v", s, list, share, cell, most, weights)
				}
				sum.Add(sum, own)
			}
			if sum.Cmp(big.NewRat(1, 1)) != 0 || shares[best] != most {
				t.Fatalf("%v, %v: the sum is %v, the most %v: %v", s, list, sum, most, shares)
			}
		}
	}
	if found < 300 {
		t.Errorf("only %d finds have shares", found)
	}
}

// TestPromise9 holds all paths of a few hours, and some of many hours, against
// the likeliest one and against what proofs say.
func TestPromise9(t *testing.T) {
	r := rand.New(rand.NewSource(9))
	for i, s := range manySeas() {
		cells := cellsOf(s)
		cell, begin, hours := cells[r.Intn(len(cells))], int64(i%2), i%15
		var list []odds
		if hours < 5 {
			list = allPaths(s, cell, begin, hours)
		} else {
			list = somePaths(t, s, cell, begin, hours)
		}
		for _, one := range list {
			to := one.path[hours]
			likeliest, most, code := impl.LikeliestPath(s, cell, begin, int64(hours), to)
			parts, own := impl.PathParts(s, one.path, begin)
			same(t, "codes", "0 0 true", code, own, parts == one.parts)
			if parts > most || parts == most && slices.Compare(one.path, likeliest) < 0 {
				t.Fatalf("%v: %v has %d parts, %v has %d", s, one.path, parts, likeliest, most)
			}
		}
		for _, to := range cells {
			checkProofs(t, r, s, cell, begin, int64(hours), to)
		}
	}
}

// somePaths returns the paths of single bottles that are not lost.
func somePaths(t *testing.T, s impl.Sea, cell, begin int64, hours int) []odds {
	t.Helper()
	var list []odds
	seed := uint32(hours)
	for range 30 {
		path, behind, code := impl.DriftBottle(s, cell, begin, int64(hours), seed)
		if code != impl.OK {
			t.Fatalf("code %d", code)
		}
		seed = behind
		if path[hours] != impl.Lost {
			list = append(list, odds{alongByHand(s, path, begin), path})
		}
	}
	return list
}

// checkProofs looks at the least bounds, at greater ones, and at some that
// have been changed: those that are accepted are never less than a path.
func checkProofs(t *testing.T, r *rand.Rand, s impl.Sea, cell, begin, hours, to int64) {
	t.Helper()
	path, most, code := impl.LikeliestPath(s, cell, begin, hours, to)
	if code == impl.OK {
		parts, own := impl.PathParts(s, path, begin)
		same(t, "the likeliest", "true 0", parts == most && path[0] == cell && path[hours] == to, own)
	}
	many, _ := impl.CountPaths(s, cell, begin, hours, to)
	same(t, "whether there is one", "true", (many > 0) == (code == impl.OK) && (many > 0) == (most > 0))
	least := boundsBy(t, s, to, begin, hours)
	bound, code := impl.ProvedBound(s, cell, to, begin, least)
	same(t, "least", "true 0", bound == most, code)
	b := slices.Clone(least)
	for range r.Intn(3) {
		row := &b[r.Intn(len(b))]
		row[cellsOf(s)[r.Intn(len(cellsOf(s)))]] += int64(r.Intn(200) - 100)
	}
	proof, code := impl.CheckBounds(s, to, begin, b)
	if proof != provesByHand(s, to, begin, b) || code != impl.OK {
		t.Fatalf("%v to %d, %d: %v: %v %d", s, to, begin, b, proof, code)
	}
	bound, code = impl.ProvedBound(s, cell, to, begin, b)
	if proof != (code == impl.OK) || proof && (bound < most || bound != b[hours][cell]) || !proof && bound != 0 {
		t.Fatalf("%v, %d to %d: %d %d, but %v has %d", s, cell, to, bound, code, path, most)
	}
}

// provesByHand reports whether bounds are a proof, by the document.
func provesByHand(s impl.Sea, to, begin int64, b impl.Bounds) bool {
	for left, row := range b {
		for cell, parts := range row {
			if parts < 0 || parts > power(14) || parts > 0 && !slices.Contains(cellsOf(s), int64(cell)) {
				return false
			}
			if left == 0 {
				continue
			}
			for _, next := range cellsOf(s) {
				way := partsByHand(s, int64(cell), next, (begin+int64(len(b)-1-left))%2)
				if parts < way*b[left-1][next] {
					return false
				}
			}
		}
	}
	return len(b) > 0 && len(b) < 16 && b[0][to] > 0
}
