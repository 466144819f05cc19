package tests

import (
	"fmt"
	"math/rand"
	"strings"
	"testing"

	"loop.example/g01300/impl"
)

// same fails unless the values, printed one after the other, are as wanted.
func same(t *testing.T, name, want string, values ...any) {
	t.Helper()
	got := strings.TrimSuffix(fmt.Sprintln(values...), "\n")
	if got != want {
		t.Errorf("%s: got %s, want %s", name, got, want)
	}
}

// still returns a still sea, which has to be one.
func still(t *testing.T, wide, high int64, land uint64) impl.Sea {
	t.Helper()
	s, code := impl.StillSea(wide, high, land)
	if code != impl.OK {
		t.Fatalf("StillSea %d, %d, %d: code %d", wide, high, land, code)
	}
	return s
}

// example returns the sea of the document's examples, without its current.
func example(t *testing.T) impl.Sea {
	t.Helper()
	return still(t, 3, 2, 4)
}

// bits returns the bits of some numbers.
func bits(numbers ...int) uint64 {
	var sum uint64
	for _, n := range numbers {
		sum |= 1 << n
	}
	return sum
}

// numbersOfCells returns the numbers of all cells of a grid, by the document.
func numbersOfCells(wide, high int) []int {
	var list []int
	for y := 0; y < high; y++ {
		for x := 0; x < wide; x++ {
			list = append(list, x+6*y)
		}
	}
	return list
}

// stepByHand returns where a way leads from a cell, by the document.
func stepByHand(s impl.Sea, cell, way int) int {
	step := [5][2]int{{0, 0}, {0, -1}, {1, 0}, {0, 1}, {-1, 0}}[way]
	x, y := cell%6+step[0], cell/6+step[1]
	if x < 0 || y < 0 || x >= int(s.Wide) || y >= int(s.High) {
		return -1
	}
	return x + 6*y
}

// randomChances deals the 12 parts out, to few ways or to all of them.
func randomChances(r *rand.Rand) impl.Chances {
	var c impl.Chances
	ways := 1 + r.Intn(5)
	for part := 0; part < 12; part++ {
		c[r.Intn(ways)]++
	}
	r.Shuffle(5, func(i, j int) { c[i], c[j] = c[j], c[i] })
	return c
}

// randomSea makes a valid sea without the program's own functions.
func randomSea(r *rand.Rand) impl.Sea {
	s := impl.Sea{Wide: int8(1 + r.Intn(6)), High: int8(1 + r.Intn(6))}
	dry := r.Intn(4)
	for _, cell := range numbersOfCells(int(s.Wide), int(s.High)) {
		if r.Intn(4) < dry {
			s.Land |= 1 << cell
			continue
		}
		s.Tides[0][cell] = randomChances(r)
		s.Tides[1][cell] = randomChances(r)
	}
	return s
}

// manySeas returns seas of all kinds, the same ones each time.
func manySeas() []impl.Sea {
	r := rand.New(rand.NewSource(1300))
	var list []impl.Sea
	for range 300 {
		list = append(list, randomSea(r))
	}
	return list
}

// badSeas returns seas that are not valid, each for one reason, by its name.
func badSeas(t *testing.T) map[string]impl.Sea {
	t.Helper()
	good := example(t)
	list := map[string]impl.Sea{"zero": {}}
	add := func(name string, change func(s *impl.Sea)) {
		s := good
		change(&s)
		list[name] = s
	}
	add("no width", func(s *impl.Sea) { s.Wide = 0 })
	add("no height", func(s *impl.Sea) { s.High = 0 })
	add("negative width", func(s *impl.Sea) { s.Wide = -3 })
	add("negative height", func(s *impl.Sea) { s.High = -128 })
	add("width 7", func(s *impl.Sea) { s.Wide = 7 })
	add("height 127", func(s *impl.Sea) { s.High = 127 })
	add("wider than its chances", func(s *impl.Sea) { s.Wide = 4 })
	add("higher than its chances", func(s *impl.Sea) { s.High = 3 })
	add("narrower than its chances", func(s *impl.Sea) { s.Wide = 2; s.Land = 0 })
	add("lower than its chances", func(s *impl.Sea) { s.High = 1 })
	add("land beside the grid", func(s *impl.Sea) { s.Land |= bits(3) })
	add("land below the grid", func(s *impl.Sea) { s.Land |= bits(12) })
	add("land behind all cells", func(s *impl.Sea) { s.Land |= bits(36) })
	add("land at the last bit", func(s *impl.Sea) { s.Land |= bits(63) })
	add("flood on land", func(s *impl.Sea) { s.Tides[0][2] = impl.Chances{12} })
	add("ebb on land", func(s *impl.Sea) { s.Tides[1][2] = impl.Chances{12} })
	add("flood beside the grid", func(s *impl.Sea) { s.Tides[0][3] = impl.Chances{12} })
	add("ebb below the grid", func(s *impl.Sea) { s.Tides[1][35] = impl.Chances{12} })
	add("flood of 11 parts", func(s *impl.Sea) { s.Tides[0][0] = impl.Chances{11} })
	add("ebb of 13 parts", func(s *impl.Sea) { s.Tides[1][8] = impl.Chances{12, 1} })
	add("flood of no parts", func(s *impl.Sea) { s.Tides[0][8] = impl.Chances{} })
	add("ebb that wraps around", func(s *impl.Sea) { s.Tides[1][7] = impl.Chances{255, 13} })
	add("water that was land", func(s *impl.Sea) { s.Land = 0 })
	add("too wide alone", func(s *impl.Sea) { *s = still(t, 6, 6, 0); s.Wide = 7 })
	add("too high alone", func(s *impl.Sea) { *s = still(t, 6, 6, 0); s.High = 7 })
	return list
}

// textsBeside returns texts that are nearly the given one, of several lines of
// numbers, each for one reason, by its name.
func textsBeside(text string) map[string]string {
	return map[string]string{
		"no end": text[:len(text)-1], "blank line": text + "\n", "leading line": "\n" + text, "leading blank": " " + text,
		"leading zero": "0" + text, "sign": "+" + text, "returns": strings.ReplaceAll(text, "\n", "\r\n"),
		"trailing blanks": strings.ReplaceAll(text, "\n", " \n"), "two blanks": strings.ReplaceAll(text, " ", "  "),
		"tabs": strings.ReplaceAll(text, " ", "\t"), "zero byte": text + "\x00", "twice": text + text,
		"no first line": text[strings.IndexByte(text, '\n')+1:],
	}
}
