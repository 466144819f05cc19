package tests

import (
	"fmt"
	"slices"
	"testing"

	"loop.example/g01300/impl"
)

// someMaps returns those cases of which the finds have no repairs by hand that
// take long.
func someMaps() []mapCase {
	var list []mapCase
	for i, c := range manyMaps() {
		if len(c.finds)*len(spotsByHand(c.a, c.b)) < 60 || i%20 == 0 {
			list = append(list, c)
		}
	}
	return list
}

func TestBestRepair(t *testing.T) {
	better, rescued := 0, 0
	for i, c := range someMaps() {
		spot, score, can := bestByHand(c.a, c)
		got, points, code := impl.BestRepair(c.a, c.b, c.cell, c.begin, c.finds)
		if !can {
			same(t, "none", "{0 0} 0 6", got, points, code)
			continue
		}
		better++
		if _, before := scoreByHand(c.a, c); !before {
			rescued++
		}
		if got != spot || points != score || code != impl.OK {
			t.Fatalf("%d, %v: %v %d %d, want %v %d", i, c, got, points, code, spot, score)
		}
	}
	if better < 150 || rescued < 30 {
		t.Errorf("only %d repairs are better, and %d make finds possible", better, rescued)
	}
}

func TestBestRepairWritten(t *testing.T) {
	slow, fast := channel(t, [2][2]uint8{{5, 5}, {5, 5}}), channel(t, [2][2]uint8{{6, 6}, {6, 6}})
	calm := channel(t, [2][2]uint8{})
	for _, one := range []struct {
		name  string
		a, b  impl.Sea
		cell  int64
		begin int64
		list  []impl.Find
		want  string
	}{
		// By flood from 0 to 1 and by ebb from 1 to 2: 30 parts by either.
		{"the first one of two", slow, fast, 0, impl.TdFlood, onTwo(2), "{0 0} -36 0"},
		{"the first tide, not the first hour", slow, fast, 0, impl.TdEbb, onTwo(2), "{0 1} -36 0"},
		{"the greatest one", slow, channel(t, [2][2]uint8{{6, 6}, {6, 8}}), 0, impl.TdFlood, onTwo(2), "{1 1} -29 0"},
		{"of two that make it possible", channel(t, [2][2]uint8{{5, 0}, {0, 0}}), channel(t, [2][2]uint8{{5, 0}, {3, 7}}), 0, impl.TdFlood, onTwo(2), "{1 1} -32 0"},
		{"none with a", calm, slow, 1, impl.TdFlood, onTwo(1), "{0 1} -20 0"},
		{"none with a, and later", calm, slow, 1, impl.TdFlood, onTwo(2), "{1 1} -20 0"},
		{"one repair is not enough", calm, slow, 0, impl.TdFlood, onTwo(2), "{0 0} 0 6"},
		{"one repair for one of two finds", calm, slow, 1, impl.TdFlood, onTwo(1, 2), "{0 0} 0 6"},
		{"none with b either", calm, slow, 0, impl.TdFlood, onTwo(1), "{0 0} 0 6"},
		{"less", fast, slow, 0, impl.TdFlood, onTwo(2), "{0 0} 0 6"},
		{"a repair that makes it impossible", slow, calm, 0, impl.TdFlood, onTwo(2), "{0 0} 0 6"},
		{"equal seas", slow, slow, 0, impl.TdFlood, onTwo(2), "{0 0} 0 6"},
		{"equal seas without a score", calm, calm, 0, impl.TdFlood, onTwo(2), "{0 0} 0 6"},
		{"no finds", slow, fast, 0, impl.TdFlood, nil, "{0 0} 0 6"},
		{"never there", slow, channel(t, [2][2]uint8{{7, 7}, {5, 5}}), 1, impl.TdFlood, onTwo(1, 2, 3), "{0 0} 0 6"},
	} {
		spot, score, code := impl.BestRepair(one.a, one.b, one.cell, one.begin, one.list)
		same(t, one.name, one.want, spot, score, code)
	}
}

// TestBestRepairOfZero has a score that is 0 behind a repair: it is a score,
// and one is greater than those below it.
func TestBestRepairOfZero(t *testing.T) {
	sure := strait(t, impl.Chances{0, 0, 12}, impl.Chances{12})
	calm := strait(t, impl.Chances{12}, impl.Chances{12})
	list := []impl.Find{{Beach: 2, Hour: 1}}
	spot, score, code := impl.BestRepair(calm, sure, 1, impl.TdFlood, list)
	same(t, "from none", "{0 1} 0 0", spot, score, code)
	spot, score, code = impl.BestRepair(strait(t, impl.Chances{1, 0, 11}, impl.Chances{12}), sure, 1, impl.TdFlood, list)
	same(t, "from less", "{0 1} 0 0", spot, score, code)
	spot, score, code = impl.BestRepair(sure, calm, 1, impl.TdFlood, list)
	same(t, "to none", "{0 0} 0 6", spot, score, code)
}

func TestRepairMap(t *testing.T) {
	several, ended := 0, 0
	for i, c := range someMaps() {
		most := int64(i % 5)
		want, list := c.a, []impl.Spot(nil)
		for range most {
			spot, _, can := bestByHand(want, c)
			if !can {
				ended++
				break
			}
			want, list = repairByHand(want, c.b, spot), append(list, spot)
		}
		got, made, code := impl.RepairMap(c.a, c.b, c.cell, c.begin, c.finds, most)
		if got != want || !slices.Equal(made, list) || code != impl.OK {
			t.Fatalf("%d, %v, %d: %v %d, want %v", i, c, most, made, code, list)
		}
		if len(made) > 1 {
			several++
		}
	}
	if several < 40 || ended < 200 {
		t.Errorf("only %d seas are repaired several times, and %d as often as they can be", several, ended)
	}
}

func TestRepairMapWritten(t *testing.T) {
	slow, fast := channel(t, [2][2]uint8{{5, 5}, {5, 5}}), channel(t, [2][2]uint8{{6, 6}, {6, 6}})
	calm := channel(t, [2][2]uint8{})
	for _, one := range []struct {
		name string
		a, b impl.Sea
		cell int64
		list []impl.Find
		most int64
		east string
		want string
	}{
		{"both hours", slow, fast, 0, onTwo(2), 20, "6 5 5 6", "[{0 0} {1 1}] 0"},
		{"just both", slow, fast, 0, onTwo(2), 2, "6 5 5 6", "[{0 0} {1 1}] 0"},
		{"the first alone", slow, fast, 0, onTwo(2), 1, "6 5 5 5", "[{0 0}] 0"},
		{"none is asked for", slow, fast, 0, onTwo(2), 0, "5 5 5 5", "[] 0"},
		{"the greatest first", slow, channel(t, [2][2]uint8{{6, 6}, {6, 8}}), 0, onTwo(2), 20, "6 5 5 8", "[{1 1} {0 0}] 0"},
		{"none is better", fast, slow, 0, onTwo(2), 20, "6 6 6 6", "[] 0"},
		{"no finds", slow, fast, 0, nil, 20, "5 5 5 5", "[] 0"},
		{"from none to a score, and none behind it", calm, slow, 1, onTwo(2), 20, "0 0 0 5", "[{1 1}] 0"},
		{"one repair is not enough", calm, slow, 0, onTwo(2), 20, "0 0 0 0", "[] 0"},
		{"finds that cannot be", slow, fast, 0, onTwo(2, 1), 20, "5 5 5 5", "[] 0"},
		{"equal seas", slow, slow, 0, onTwo(2), 20, "5 5 5 5", "[] 0"},
		{"as b in the end", slow, channel(t, [2][2]uint8{{6, 5}, {5, 6}}), 0, onTwo(2), 20, "6 5 5 6", "[{0 0} {1 1}] 0"},
	} {
		s, made, code := impl.RepairMap(one.a, one.b, one.cell, impl.TdFlood, one.list, one.most)
		same(t, one.name, one.want, made, code)
		east := fmt.Sprint(s.Tides[0][0][2], s.Tides[1][0][2], s.Tides[0][1][2], s.Tides[1][1][2])
		same(t, one.name, one.east+" true", east, impl.ValidSea(s))
	}
}

// TestRepairMapFull has more repairs to make than there may be.
func TestRepairMapFull(t *testing.T) {
	a, b := still(t, 6, 6, bits(35)), still(t, 6, 6, bits(35))
	for cell := range 35 {
		for tide := range 2 {
			a.Tides[tide][cell] = impl.Chances{6, 1, 2, 2, 1}
			b.Tides[tide][cell] = impl.Chances{0, 0, 6, 6, 0}
		}
	}
	list := repeated(impl.Find{Beach: 35, Hour: 10}, 60)
	for i := range list[:30] {
		list[i].Hour = 11 + int8(i%4)
	}
	_, possible := impl.ScoreOf(a, 0, impl.TdFlood, list)
	same(t, "at first", "0", possible)
	before := a
	s, made, code := impl.RepairMap(a, b, 0, impl.TdFlood, list, impl.MaxRepairs)
	if len(made) != impl.MaxRepairs || code != impl.OK {
		t.Fatalf("%v %d", made, code)
	}
	for i, spot := range made {
		next, _, code := impl.BestRepair(before, b, 0, impl.TdFlood, list)
		if next != spot || code != impl.OK {
			t.Fatalf("%d: %v, want %v", i, spot, next)
		}
		before = repairByHand(before, b, spot)
	}
	_, _, code = impl.BestRepair(before, b, 0, impl.TdFlood, list)
	same(t, "the sea, and one more repair", "true 0", s == before, code)
}
