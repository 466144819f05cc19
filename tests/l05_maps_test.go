package tests

import (
	"fmt"
	"math"
	"math/big"
	"math/rand"
	"slices"
	"sort"
	"testing"

	"loop.example/g01300/impl"
)

func TestMapsExample(t *testing.T) {
	a, b := eastBy(t, 5), eastBy(t, 6)
	twelve, c1 := impl.LogOf(12)
	other, c2 := impl.LogOf(25)
	more, c3 := impl.LogOf(36)
	same(t, "logarithms", "57 0 74 0 82 0", twelve, c1, other, c2, more, c3)
	score, c4 := impl.ScoreOf(a, 0, impl.TdFlood, onTwo(2))
	greater, c5 := impl.ScoreOf(b, 0, impl.TdFlood, onTwo(2))
	same(t, "scores", "-40 0 -32 0", score, c4, greater, c5)
	distance, c6 := impl.MapDistance(a, b, 0, impl.TdFlood, 1)
	telling, by, c7 := impl.TellingFind(a, b, 0, impl.TdFlood, 2)
	same(t, "difference", "2 0 {2 2} 11 0", distance, c6, telling, by, c7)
}

func TestMapsConstants(t *testing.T) {
	same(t, "limits", "8 20", impl.MaxMaps, impl.MaxRepairs)
}

func TestLogOfWritten(t *testing.T) {
	for n, want := range map[int64]int64{
		1: 0, 2: 16, 3: 25, 4: 32, 5: 37, 6: 41, 7: 44, 8: 48, 11: 55, 12: 57, 13: 59, 16: 64,
		1<<30 - 1: 479, 1 << 30: 480, 1 << 31: 496, 1<<31 + 1: 496, 1<<31 - 1: 495, 1 << 50: 800,
		1518500249: 487, 1518500250: 488, 759250124: 471, 759250125: 472,
		power(13): 745, power(14): 803, power(14) - 1: 803,
	} {
		got, code := impl.LogOf(n)
		same(t, fmt.Sprint(n), fmt.Sprint(want, " 0"), got, code)
	}
	for _, n := range []int64{0, -1, -12, power(14) + 1, 1 << 51, 1 << 62, math.MinInt64, math.MaxInt64} {
		got, code := impl.LogOf(n)
		same(t, fmt.Sprint(n), "0 2", got, code)
	}
}

// TestLogOf holds logarithms against those by hand, and against the whole
// number below the true one, which they are or miss by one.
func TestLogOf(t *testing.T) {
	check := func(n int64) {
		got, code := impl.LogOf(n)
		if want := logByHand(n); got != want || code != impl.OK {
			t.Fatalf("%d: %d %d, want %d", n, got, code, want)
		}
		power16 := new(big.Int).Exp(big.NewInt(n), big.NewInt(16), nil)
		if low := int64(power16.BitLen() - 1); got != low && got != low-1 {
			t.Fatalf("%d: %d, but 2 to the power %d is in its power 16", n, got, low)
		}
	}
	for n := range int64(3000) {
		check(n + 1)
	}
	r := rand.New(rand.NewSource(16))
	for e := range 51 {
		for n := int64(1)<<e - 3; n <= 1<<e+3; n++ {
			if n > 0 {
				check(n)
			}
		}
		for range 20 {
			check(min(power(14), int64(1)<<e+r.Int63n(1<<e)))
		}
	}
	// The least number of each logarithm, if there is one, and its neighbours.
	for log := int64(1); log <= 803; log++ {
		least := int64(1 + sort.Search(int(power(14)), func(n int) bool { return logByHand(int64(1+n)) >= log }))
		check(least - 1)
		check(least)
		check(min(power(14), least+1))
	}
}

func TestScores(t *testing.T) {
	none := 0
	for i, c := range manyMaps() {
		scores, one := impl.ScoresOf(c.a, c.cell, c.begin, c.finds)
		sum, two := impl.ScoreOf(c.a, c.cell, c.begin, c.finds)
		want, can := scoreByHand(c.a, c)
		if !can {
			none++
			same(t, "cannot be", "0 6 0 6", len(scores), one, sum, two)
			continue
		}
		if sum != want || one != impl.OK || two != impl.OK || len(scores) != len(c.finds) {
			t.Fatalf("%d, %v: %v %d %d %d, want %d", i, c, scores, one, sum, two, want)
		}
		for j, f := range c.finds {
			if score, _ := findScoreByHand(c.a, c.cell, c.begin, f); scores[j] != score {
				t.Fatalf("%d, %v: %v, want %d at %d", i, c, scores, score, j)
			}
		}
	}
	if none < 100 {
		t.Errorf("only %d lists of finds cannot be", none)
	}
}

func TestScoresWritten(t *testing.T) {
	s := eastBy(t, 5)
	scores, one := impl.ScoresOf(s, 0, impl.TdFlood, onTwo(2, 3, 2))
	sum, two := impl.ScoreOf(s, 0, impl.TdFlood, onTwo(2, 3, 2))
	// 2 * 25 * 7 is 350, of which the logarithm is 135; 135 - 171 is -36.
	same(t, "several", "[-40 -36 -40] 0 -116 0", scores, one, sum, two)
	scores, one = impl.ScoresOf(s, 0, impl.TdFlood, nil)
	sum, two = impl.ScoreOf(s, 0, impl.TdFlood, nil)
	same(t, "no finds", "0 0 0 0", len(scores), one, sum, two)
	scores, one = impl.ScoresOf(s, 1, impl.TdEbb, onTwo(1))
	same(t, "an hour", "[-20] 0", scores, one)
	end := impl.Find{Beach: 23, Hour: 11}
	scores, one = impl.ScoresOf(snake(t, 12), 10, impl.TdEbb, []impl.Find{end})
	same(t, "all parts", "[3] 0", scores, one)
	sum, two = impl.ScoreOf(snake(t, 1), 10, impl.TdEbb, repeated(end, 60))
	same(t, "one part, 60 times", "-37620 0", sum, two)
}

// TestImpossibleScores has a find that cannot be at each place of a list.
func TestImpossibleScores(t *testing.T) {
	s := eastBy(t, 5)
	for at := range 5 {
		list := onTwo(2, 3, 2, 14, 5)
		list[at].Hour = 1
		scores, one := impl.ScoresOf(s, 0, impl.TdFlood, list)
		sum, two := impl.ScoreOf(s, 0, impl.TdFlood, list)
		worst, three := impl.WorstFind(s, 0, impl.TdFlood, list)
		same(t, fmt.Sprint(at), fmt.Sprint("0 6 0 6 ", at, " 0"), len(scores), one, sum, two, worst, three)
	}
	for _, cell := range []int64{6, 7, 8} {
		for hour := range int8(14) {
			_, one := impl.ScoresOf(s, cell, impl.TdEbb, onTwo(hour+1))
			_, two := impl.ScoreOf(s, cell, impl.TdEbb, onTwo(hour+1))
			worst, three := impl.WorstFind(s, cell, impl.TdEbb, onTwo(hour+1, 1, 2))
			same(t, "never", "6 6 0 0", one, two, worst, three)
		}
	}
}

func TestWorstFind(t *testing.T) {
	for i, c := range manyMaps() {
		got, code := impl.WorstFind(c.a, c.cell, c.begin, c.finds)
		if len(c.finds) == 0 {
			same(t, "no finds", "0 6", got, code)
			continue
		}
		want, least := -1, int64(0)
		for j, f := range c.finds {
			score, can := findScoreByHand(c.a, c.cell, c.begin, f)
			if !can {
				want = j
				break
			}
			if want < 0 || score < least {
				want, least = j, score
			}
		}
		if got != int64(want) || code != impl.OK {
			t.Fatalf("%d, %v: %d %d, want %d", i, c, got, code, want)
		}
	}
	s := eastBy(t, 5)
	for _, one := range []struct {
		list []impl.Find
		want string
	}{
		{onTwo(3, 2, 3, 2), "1 0"},
		{onTwo(2, 14, 2, 14), "1 0"},
		{onTwo(14, 2, 1, 1), "2 0"},
		{onTwo(1, 14, 1), "0 0"},
		{onTwo(3), "0 0"},
	} {
		worst, code := impl.WorstFind(s, 0, impl.TdFlood, one.list)
		same(t, fmt.Sprint(one.list), one.want, worst, code)
	}
}

func TestBetterMap(t *testing.T) {
	kinds := map[string]int{}
	for i, c := range manyMaps() {
		inA, canA := scoreByHand(c.a, c)
		inB, canB := scoreByHand(c.b, c)
		want := "0 0 0"
		switch {
		case !canA && !canB:
			want = "0 0 6"
		case !canB:
			want = "1 0 0"
		case !canA:
			want = "-1 0 0"
		case inA > inB:
			want = fmt.Sprint("1 ", inA-inB, " 0")
		case inA < inB:
			want = fmt.Sprint("-1 ", inA-inB, " 0")
		}
		better, by, code := impl.BetterMap(c.a, c.b, c.cell, c.begin, c.finds)
		same(t, fmt.Sprint(i), want, better, by, code)
		kinds[fmt.Sprint(canA, canB, better)]++
	}
	for _, kind := range []string{"true true 0", "true true 1", "true true -1", "true false 1", "false true -1", "false false 0"} {
		if kinds[kind] < 20 {
			t.Errorf("%s: only %d", kind, kinds[kind])
		}
	}
}

func TestBetterMapWritten(t *testing.T) {
	a, b := eastBy(t, 5), eastBy(t, 6)
	for _, one := range []struct {
		name string
		a, b impl.Sea
		cell int64
		list []impl.Find
		want string
	}{
		{"greater with b", a, b, 0, onTwo(2), "-1 -8 0"},
		{"greater with a", b, a, 0, onTwo(2), "1 8 0"},
		{"equal", a, a, 0, onTwo(2), "0 0 0"},
		{"no finds", a, b, 0, nil, "0 0 0"},
		{"no finds in still water", example(t), example(t), 0, nil, "0 0 0"},
		{"with a alone", a, example(t), 0, onTwo(2), "1 0 0"},
		{"with b alone", example(t), a, 0, onTwo(2), "-1 0 0"},
		{"with none", example(t), example(t), 0, onTwo(2), "0 0 6"},
		{"too early with both", a, b, 0, onTwo(2, 1), "0 0 6"},
		{"never with both", a, b, 8, onTwo(14), "0 0 6"},
		{"other finds with each", strait(t, impl.Chances{0, 0, 12}, impl.Chances{12}), strait(t, impl.Chances{0, 0, 0, 0, 12}, impl.Chances{12}), 1, []impl.Find{{Beach: 0, Hour: 1}, {Beach: 2, Hour: 1}}, "0 0 6"},
	} {
		better, by, code := impl.BetterMap(one.a, one.b, one.cell, impl.TdFlood, one.list)
		same(t, one.name, one.want, better, by, code)
	}
}

func TestRankMapsWritten(t *testing.T) {
	calm := example(t)
	by := func(parts int64) impl.Sea { return eastBy(t, parts) }
	for _, one := range []struct {
		name string
		maps []impl.Sea
		list []impl.Find
		want string
	}{
		{"greatest first", []impl.Sea{by(5), by(6), by(7)}, onTwo(2), "[2 1 0] 0"},
		{"without a score last", []impl.Sea{calm, by(5), calm, by(6)}, onTwo(2), "[3 1 0 2] 0"},
		{"equal ones", []impl.Sea{by(5), by(6), by(5), by(6), by(5)}, onTwo(2), "[1 3 0 2 4] 0"},
		{"none has a score", []impl.Sea{by(5), calm, by(6)}, onTwo(1, 2), "[0 1 2] 0"},
		{"no finds", []impl.Sea{by(7), calm, by(5), by(12)}, nil, "[0 1 2 3] 0"},
		{"a score of 0 and none", []impl.Sea{calm, by(12)}, onTwo(2), "[1 0] 0"},
		{"one", []impl.Sea{calm}, onTwo(2), "[0] 0"},
		{"as many as there may be", []impl.Sea{by(1), by(2), by(3), by(4), by(5), by(6), by(7), by(8)}, onTwo(2), "[7 6 5 4 3 2 1 0] 0"},
	} {
		order, code := impl.RankMaps(one.maps, 0, impl.TdFlood, one.list)
		same(t, one.name, one.want, order, code)
	}
}

// TestRankMaps takes a sea, and others that are like it, some of them twice.
func TestRankMaps(t *testing.T) {
	r := rand.New(rand.NewSource(8))
	for i, c := range manyMaps() {
		maps := []impl.Sea{c.a, c.b}
		for range i % 7 {
			maps = append(maps, otherChances(r, maps[r.Intn(len(maps))], r.Intn(3)))
		}
		order, code := impl.RankMaps(maps, c.cell, c.begin, c.finds)
		want := make([]int64, len(maps))
		for j := range want {
			want[j] = int64(j)
		}
		slices.SortStableFunc(want, func(x, y int64) int {
			first, canFirst := scoreByHand(maps[x], c)
			second, canSecond := scoreByHand(maps[y], c)
			switch {
			case canFirst && (!canSecond || first > second):
				return -1
			case canSecond && (!canFirst || second > first):
				return 1
			}
			return 0
		})
		if !slices.Equal(order, want) || code != impl.OK {
			t.Fatalf("%d, %v: %v %d, want %v", i, c, order, code, want)
		}
	}
}
