package tests

import (
	"fmt"
	"slices"
	"testing"

	"loop.example/g01300/impl"
)

func TestPathParts(t *testing.T) {
	for i, s := range manySeas()[:120] {
		cells := cellsOf(s)
		cell, begin := cells[i%len(cells)], int64(i%2)
		for _, one := range allPaths(s, cell, begin, 1+i%3) {
			got, code := impl.PathParts(s, one.path, begin)
			if got != one.parts || code != impl.OK {
				t.Fatalf("%v, %v, %d: %d %d, want %d", s, one.path, begin, got, code, one.parts)
			}
		}
		// All lists of three cells, those that cannot be among them.
		for _, second := range cells {
			for _, third := range cells {
				path := []int64{cell, second, third}
				got, code := impl.PathParts(s, path, begin)
				want, wantCode := alongByHand(s, path, begin), int64(impl.OK)
				if want == 0 {
					wantCode = impl.ErrProof
				}
				if got != want || code != wantCode {
					t.Fatalf("%v, %v, %d: %d %d, want %d %d", s, path, begin, got, code, want, wantCode)
				}
			}
		}
	}
}

func TestPathPartsWritten(t *testing.T) {
	s := eastward(t)
	s.Tides[impl.TdEbb][0] = impl.Chances{1, 2, 3, 4, 2}
	for _, one := range []struct {
		path  []int64
		begin int64
		want  string
	}{
		{[]int64{0}, impl.TdFlood, "1 0"},
		{[]int64{2}, impl.TdEbb, "1 0"},
		{[]int64{8}, impl.TdEbb, "1 0"},
		{[]int64{0, 0}, impl.TdFlood, "7 0"},
		{[]int64{0, 0}, impl.TdEbb, "1 0"},
		{[]int64{0, 6}, impl.TdEbb, "4 0"},
		{[]int64{0, 6}, impl.TdFlood, "0 8"},
		{[]int64{0, 0, 1}, impl.TdFlood, "21 0"},
		{[]int64{0, 0, 1}, impl.TdEbb, "5 0"},
		{[]int64{0, 1, 2, 2}, impl.TdFlood, "300 0"},
		{[]int64{2, 2, 2}, impl.TdFlood, "144 0"},
		{repeated64(2, 15), impl.TdEbb, fmt.Sprint(power(14), " 0")},
		// Land is never left, neither for water beside it nor for other cells.
		{[]int64{2, 1}, impl.TdFlood, "0 8"},
		{[]int64{1, 2, 8}, impl.TdFlood, "0 8"},
		{[]int64{0, 2}, impl.TdFlood, "0 8"},
		{[]int64{1, 0}, impl.TdFlood, "0 8"},
		{[]int64{0, 8}, impl.TdFlood, "0 8"},
		// The first hour alone cannot be, or the last one.
		{[]int64{6, 0, 1, 2}, impl.TdFlood, "0 8"},
		{[]int64{0, 1, 2, 1}, impl.TdFlood, "0 8"},
	} {
		got, code := impl.PathParts(s, one.path, one.begin)
		same(t, fmt.Sprint(one.path, one.begin), one.want, got, code)
	}
	// The numbers 5 and 6 follow each other, but the cells do not.
	wide, _ := impl.WithCurrent(still(t, 6, 2, 0), impl.WyEast, 5)
	got, code := impl.PathParts(wide, []int64{5, 6}, impl.TdFlood)
	same(t, "the next row", "0 8", got, code)
}

// repeated64 returns a list with the same number so many times.
func repeated64(number int64, many int) []int64 {
	var list []int64
	for range many {
		list = append(list, number)
	}
	return list
}

// TestLikeliestPath holds the likeliest paths of a few hours against all
// paths, and those of up to 14 hours against others that are made forward.
func TestLikeliestPath(t *testing.T) {
	for i, s := range manySeas() {
		cells := cellsOf(s)
		cell, begin, few, many := cells[i%len(cells)], int64(i%2), i%5, i%15
		list := allPaths(s, cell, begin, few)
		slow := map[int64]odds{}
		for _, one := range list {
			end := one.path[few]
			if one.parts > slow[end].parts {
				slow[end] = one
			}
		}
		checkLikeliest(t, s, cell, begin, int64(few), slow)
		checkLikeliest(t, s, cell, begin, int64(few), likeliestByHand(s, cell, begin, few))
		checkLikeliest(t, s, cell, begin, int64(many), likeliestByHand(s, cell, begin, many))
	}
}

func checkLikeliest(t *testing.T, s impl.Sea, cell, begin, hours int64, want map[int64]odds) {
	t.Helper()
	for _, to := range cellsOf(s) {
		path, parts, code := impl.LikeliestPath(s, cell, begin, hours, to)
		wantCode := int64(impl.OK)
		if want[to].parts == 0 {
			wantCode = impl.ErrNotFound
		}
		if parts != want[to].parts || code != wantCode || !slices.Equal(path, want[to].path) {
			t.Fatalf("%v, %d to %d, %d, %d: %v %d %d, want %v", s, cell, to, begin, hours, path, parts, code, want[to])
		}
	}
}

// TestLikeliestPathEqual has many equal ways, of which the least cell, not the
// way with the least number, comes first.
func TestLikeliestPathEqual(t *testing.T) {
	slow := evenly(t, 3, 3)
	slow.Tides[1] = slow.Tides[0]
	even := evenly(t, 3, 3)
	even.Tides[0] = even.Tides[1]
	for _, one := range []struct {
		name                   string
		s                      impl.Sea
		cell, begin, hours, to int64
		want                   string
	}{
		{"north and back", even, 7, 0, 2, 7, "[7 1 7] 9 0"},
		{"west and back", even, 1, 0, 2, 1, "[1 0 1] 9 0"},
		{"east and back", even, 0, 0, 2, 0, "[0 1 0] 9 0"},
		{"around", even, 0, 0, 4, 14, "[0 1 2 8 14] 81 0"},
		{"around, back", even, 14, 0, 4, 0, "[14 8 2 1 0] 81 0"},
		{"to the north first", even, 12, 0, 4, 2, "[12 6 0 1 2] 81 0"},
		{"to the west first", even, 2, 0, 4, 12, "[2 1 0 6 12] 81 0"},
		{"no way", even, 0, 0, 3, 14, "[] 0 6"},
		{"odd hours", even, 0, 0, 3, 0, "[] 0 6"},
		{"north before staying", slow, 6, 1, 2, 0, "[6 0 0] 8 0"},
		{"west before staying", slow, 1, 1, 2, 0, "[1 0 0] 8 0"},
		{"staying before the east", slow, 0, 0, 2, 1, "[0 0 1] 8 0"},
		{"staying before the south", slow, 0, 0, 2, 6, "[0 0 6] 8 0"},
		{"staying before both", slow, 0, 1, 3, 7, "[0 0 1 7] 16 0"},
		{"staying where the north is", slow, 7, 0, 3, 1, "[7 1 1 1] 32 0"},
		{"nothing to do", even, 7, 1, 0, 7, "[7] 1 0"},
		{"no hour to do it", even, 7, 1, 0, 1, "[] 0 6"},
	} {
		path, parts, code := impl.LikeliestPath(one.s, one.cell, one.begin, one.hours, one.to)
		same(t, one.name, one.want, path, parts, code)
	}
}

// TestLikeliestPathLate has a first step that is likely, but leads to less.
func TestLikeliestPathLate(t *testing.T) {
	s := still(t, 3, 2, 0)
	set := func(cell int, c impl.Chances) { s.Tides[0][cell], s.Tides[1][cell] = c, c }
	set(0, impl.Chances{0, 0, 9, 3, 0})
	set(1, impl.Chances{10, 0, 1, 1, 0})
	set(6, impl.Chances{0, 0, 12, 0, 0})
	path, parts, code := impl.LikeliestPath(s, 0, impl.TdFlood, 2, 7)
	same(t, "by the south", "[0 6 7] 36 0", path, parts, code)
	path, parts, code = impl.LikeliestPath(s, 0, impl.TdFlood, 2, 1)
	same(t, "by the east", "[0 1 1] 90 0", path, parts, code)
	// The parts of the longest paths, and of a beach that is there from the
	// beginning on.
	dry := still(t, 2, 1, bits(1))
	path, parts, code = impl.LikeliestPath(dry, 1, impl.TdEbb, 14, 1)
	same(t, "on land", "15 true 0", len(path), parts == power(14), code)
	path, parts, code = impl.LikeliestPath(dry, 1, impl.TdEbb, 1, 0)
	same(t, "off land", "[] 0 6", path, parts, code)
	path, parts, code = impl.LikeliestPath(dry, 0, impl.TdEbb, 14, 1)
	same(t, "to land", "[] 0 6", path, parts, code)
}

func TestCountPaths(t *testing.T) {
	for i, s := range manySeas() {
		cells := cellsOf(s)
		cell, begin, few, many := cells[i%len(cells)], int64(i%2), i%5, i%15
		slow := map[int64]int64{}
		for _, one := range allPaths(s, cell, begin, few) {
			slow[one.path[few]]++
		}
		far := countByHand(s, cell, begin, many)
		for _, to := range cells {
			got, code := impl.CountPaths(s, cell, begin, int64(few), to)
			if got != slow[to] || code != impl.OK {
				t.Fatalf("%v, %d to %d, %d, %d: %d %d, want %d", s, cell, to, begin, few, got, code, slow[to])
			}
			got, code = impl.CountPaths(s, cell, begin, int64(many), to)
			if got != far[to] || code != impl.OK {
				t.Fatalf("%v, %d to %d, %d, %d: %d %d, want %d", s, cell, to, begin, many, got, code, far[to])
			}
		}
	}
}

func TestCountPathsWritten(t *testing.T) {
	s := eastward(t)
	for _, one := range []struct {
		cell, hours, to int64
		want            string
	}{
		{0, 3, 2, "3 0"},
		{0, 14, 2, "91 0"},
		{0, 1, 2, "0 0"},
		{0, 0, 0, "1 0"},
		{0, 0, 1, "0 0"},
		{2, 14, 2, "1 0"},
		{2, 14, 1, "0 0"},
		{8, 14, 2, "0 0"},
		{8, 14, 8, "1 0"},
	} {
		got, code := impl.CountPaths(s, one.cell, impl.TdEbb, one.hours, one.to)
		same(t, fmt.Sprint(one.cell, one.hours, one.to), one.want, got, code)
	}
	// A way of one part is a way as any other one, and many hours have many
	// paths: 3 ways each hour, but for the ends of the row.
	row := still(t, 6, 1, 0)
	for cell := range 6 {
		row.Tides[0][cell] = impl.Chances{10, 0, 1, 0, 1}
		row.Tides[1][cell] = impl.Chances{1, 0, 10, 0, 1}
	}
	got, code := impl.CountPaths(row, 2, impl.TdFlood, 14, 3)
	same(t, "row", fmt.Sprint(countByHand(row, 2, 0, 14)[3], " 0"), got, code)
}

func TestBoundsFor(t *testing.T) {
	for i, s := range manySeas() {
		cells := cellsOf(s)
		to, begin, hours := cells[i%len(cells)], int64(i/2%2), i%15
		b := boundsBy(t, s, to, begin, int64(hours))
		if len(b) != hours+1 {
			t.Fatalf("%d rows for %d hours", len(b), hours)
		}
		for left, row := range b {
			want := [36]int64{}
			for _, cell := range cells {
				// These hours are the last ones of all.
				want[cell] = likeliestByHand(s, cell, (begin+int64(hours-left))%2, left)[to].parts
			}
			if row != want {
				t.Fatalf("%v to %d, %d, %d: %v with %d hours left, want %v", s, to, begin, hours, row, left, want)
			}
			if left > 4 && i%10 > 0 {
				break
			}
		}
	}
}

func TestBoundsForWritten(t *testing.T) {
	s := eastward(t)
	want := impl.Bounds{
		{2: 1},
		{1: 5, 2: 12},
		{0: 25, 1: 60, 2: 144},
		{0: 300, 1: 720, 2: 1728},
	}
	if b := boundsBy(t, s, 2, impl.TdFlood, 3); !impl.SameBounds(b, want) {
		t.Errorf("%v", b)
	}
	if b := boundsBy(t, s, 2, impl.TdEbb, 0); !impl.SameBounds(b, want[:1]) {
		t.Errorf("%v", b)
	}
	s.Tides[impl.TdEbb][0] = impl.Chances{1, 0, 11, 0, 0}
	// With 2 hours the last one is by ebb, and with 1 by flood.
	two := impl.Bounds{{1: 1}, {0: 11, 1: 7}, {0: 77, 1: 49}}
	if b := boundsBy(t, s, 1, impl.TdFlood, 2); !impl.SameBounds(b, two) {
		t.Errorf("%v", b)
	}
	one := impl.Bounds{{1: 1}, {0: 5, 1: 7}}
	if b := boundsBy(t, s, 1, impl.TdFlood, 1); !impl.SameBounds(b, one) {
		t.Errorf("%v", b)
	}
}

func TestCheckBounds(t *testing.T) {
	for i, s := range manySeas() {
		cells := cellsOf(s)
		to, begin, hours := cells[i%len(cells)], int64(i%2), int64(i%15)
		b := boundsBy(t, s, to, begin, hours)
		proof, code := impl.CheckBounds(s, to, begin, b)
		same(t, "least", "true 0", proof, code)
		// None of the least numbers can be less.
		for left := range b {
			cell := cells[(i+left)%len(cells)]
			if b[left][cell] == 0 {
				continue
			}
			b[left][cell]--
			proof, code = impl.CheckBounds(s, to, begin, b)
			same(t, "less", "false 0", proof, code)
			b[left][cell]++
		}
	}
}

// TestCheckBoundsGreat has bounds that are not the least ones.
func TestCheckBoundsGreat(t *testing.T) {
	s := eastward(t)
	for name, change := range map[string]func(b impl.Bounds){
		"none":                func(b impl.Bounds) {},
		"last row":            func(b impl.Bounds) { b[3][0]++; b[3][8] = 77; b[3][2] = power(14) },
		"the greatest number": func(b impl.Bounds) { b[3][7] = power(14) },
		"also for what is lost": func(b impl.Bounds) {
			b[0][8] = 1
			b[1] = [36]int64{1: 5, 2: 12, 7: 5, 8: 7}
			b[2][8], b[2][7], b[3][8], b[3][7], b[3][6] = 49, 60, 343, 420, 300
			b[2][6] = 25
		},
		"more than one at first": func(b impl.Bounds) { scale(b, 3) },
		"no other land":          func(b impl.Bounds) { scale(b, power(11)) },
	} {
		b := boundsBy(t, s, 2, impl.TdFlood, 3)
		change(b)
		proof, code := impl.CheckBounds(s, 2, impl.TdFlood, b)
		same(t, name, "true 0", proof, code)
		bound, code := impl.ProvedBound(s, 0, 2, impl.TdFlood, b)
		same(t, name, fmt.Sprint(b[3][0], " 0"), bound, code)
	}
	for name, b := range badBounds(t) {
		proof, code := impl.CheckBounds(s, 2, impl.TdFlood, b)
		same(t, name, "false 0", proof, code)
		for _, cell := range []int64{0, 2, 8} {
			bound, code := impl.ProvedBound(s, cell, 2, impl.TdFlood, b)
			same(t, name, "0 8", bound, code)
		}
	}
}

// scale multiplies all numbers of bounds.
func scale(b impl.Bounds, by int64) {
	for left := range b {
		for cell := range b[left] {
			b[left][cell] *= by
		}
	}
}

// TestCheckBoundsTide has bounds that are a proof for one tide alone, for one
// cell alone, and for one sea alone.
func TestCheckBoundsTide(t *testing.T) {
	s := eastward(t)
	s.Tides[impl.TdEbb][0] = impl.Chances{1, 0, 11, 0, 0}
	b := boundsBy(t, s, 1, impl.TdFlood, 2)
	flood, c1 := impl.CheckBounds(s, 1, impl.TdFlood, b)
	ebb, c2 := impl.CheckBounds(s, 1, impl.TdEbb, b)
	other, c3 := impl.CheckBounds(s, 0, impl.TdFlood, b)
	before, c4 := impl.CheckBounds(eastward(t), 1, impl.TdFlood, b)
	same(t, "by flood", "true 0 true 0 false 0 true 0", flood, c1, ebb, c2, other, c3, before, c4)
	b = boundsBy(t, s, 1, impl.TdFlood, 1)
	flood, c1 = impl.CheckBounds(s, 1, impl.TdFlood, b)
	ebb, c2 = impl.CheckBounds(s, 1, impl.TdEbb, b)
	same(t, "an hour", "true 0 false 0", flood, c1, ebb, c2)
	// The tide of the first hour is that of the last row, whatever the rows.
	for hours := int64(1); hours <= 14; hours++ {
		b = boundsBy(t, s, 1, impl.TdEbb, hours)
		ebb, c1 = impl.CheckBounds(s, 1, impl.TdEbb, b)
		bound, c2 := impl.ProvedBound(s, 0, 1, impl.TdEbb, b)
		_, parts, c3 := impl.LikeliestPath(s, 0, impl.TdEbb, hours, 1)
		same(t, "hours", "true 0 true 0 0", ebb, c1, bound == parts, c2, c3)
	}
}

// TestCheckBoundsRows has bounds of 14 and of 15 hours, of which only the
// number of rows is different.
func TestCheckBoundsRows(t *testing.T) {
	s := eastward(t)
	b := boundsBy(t, s, 7, impl.TdFlood, 14)
	proof, code := impl.CheckBounds(s, 7, impl.TdFlood, b)
	same(t, "14 hours", "true 0", proof, code)
	last := [36]int64{}
	for _, cell := range []int{0, 1, 6, 7, 8} {
		last[cell] = 12 * max(b[14][6], b[14][7])
	}
	b = append(b, last)
	proof, code = impl.CheckBounds(s, 7, impl.TdFlood, b)
	same(t, "15 hours", "false 0", proof, code)
	bound, code := impl.ProvedBound(s, 7, 7, impl.TdFlood, b)
	same(t, "15 hours", "0 8", bound, code)
	proof, code = impl.CheckBounds(s, 7, impl.TdFlood, b[1:])
	same(t, "from the row 1 on", "true 0", proof, code)
	proof, code = impl.CheckBounds(s, 7, impl.TdFlood, b[:1])
	same(t, "the row 0 alone", "true 0", proof, code)
}

func TestSameBounds(t *testing.T) {
	b := impl.Bounds{{1, 2, 3}, {35: -7}}
	for _, one := range []struct {
		other impl.Bounds
		want  bool
	}{
		{impl.Bounds{{1, 2, 3}, {35: -7}}, true},
		{impl.Bounds{{1, 2, 3}}, false},
		{impl.Bounds{{1, 2, 3}, {35: -8}}, false},
		{impl.Bounds{{35: -7}, {1, 2, 3}}, false},
		{impl.Bounds{{1, 2, 3}, {35: -7}, {}}, false},
		{nil, false},
	} {
		if impl.SameBounds(b, one.other) != one.want || impl.SameBounds(one.other, b) != one.want {
			t.Errorf("%v and %v: %v is wrong", b, one.other, !one.want)
		}
	}
	if !impl.SameBounds(nil, impl.Bounds{}) || !impl.SameBounds(nil, nil) || !impl.SameBounds(b, b) {
		t.Error("bounds are as themselves, and all that are empty are the same")
	}
	long := make(impl.Bounds, 13000)
	other := slices.Clone(long)
	other[12999][35] = 1
	if impl.SameBounds(long, other) || !impl.SameBounds(long, slices.Clone(long)) {
		t.Error("long bounds are compared to their ends")
	}
}
