package tests

import (
	"strings"
	"testing"

	"loop.example/g01300/impl"
)

func TestChancesText(t *testing.T) {
	same(t, "text", "1,2,3,4,2", impl.ChancesText(impl.Chances{1, 2, 3, 4, 2}))
	same(t, "ten and more", "0,0,12,0,0", impl.ChancesText(impl.Chances{0, 0, 12}))
	for _, c := range []impl.Chances{{}, {11}, {13}, {255, 13}} {
		same(t, "not valid", "", impl.ChancesText(c))
	}
}

func TestChancesAreRead(t *testing.T) {
	for _, s := range manySeas() {
		for tide := range s.Tides {
			for _, c := range s.Tides[tide] {
				if c == (impl.Chances{}) {
					continue
				}
				back, code := impl.ReadChances(impl.ChancesText(c))
				if back != c || code != impl.OK {
					t.Fatalf("%v: %v %d", c, back, code)
				}
			}
		}
	}
}

func TestReadChancesErrors(t *testing.T) {
	for _, text := range []string{
		"", ",", ",,,,", "12", "12,0,0,0", "12,0,0,0,0,", "12,0,0,0,0,0", ",12,0,0,0,0", "12,0,0,0,",
		"11,0,0,0,0", "13,0,0,0,0", "0,0,0,0,0", "255,13,0,0,0", "268,0,0,0,0", "13,-1,0,0,0",
		"012,0,0,0,0", "12,00,0,0,0", "+12,0,0,0,0", "12,-0,0,0,0", "12, 0,0,0,0", " 12,0,0,0,0", "12,0,0,0,0 ", "12,0,0,0,0\n",
		"0xc,0,0,0,0", "1_2,0,0,0,0", "12.,0,0,0,0", "12;0;0;0;0", "12 0 0 0 0", "a,0,0,0,0", "12,0,0,0,\x00", "1২,0,0,0,0",
		"18446744073709551628,0,0,0,0", strings.Repeat(",", 1000000), strings.Repeat("0", 1000000),
	} {
		c, code := impl.ReadChances(text)
		if c != (impl.Chances{}) || code != impl.ErrSyntax {
			t.Errorf("%.40q: %v %d", text, c, code)
		}
	}
}

func TestSeaText(t *testing.T) {
	s, _ := impl.WithCurrent(example(t), impl.WyEast, 5)
	s, _ = impl.WithChances(s, impl.TdEbb, 7, impl.Chances{0, 12})
	want := "3 2\n7,0,5,0,0 7,0,5,0,0\n7,0,5,0,0 7,0,5,0,0\nland\n7,0,5,0,0 7,0,5,0,0\n7,0,5,0,0 0,12,0,0,0\n7,0,5,0,0 7,0,5,0,0\n"
	if got := impl.SeaText(s); got != want {
		t.Errorf("got %q", got)
	}
	for name, bad := range badSeas(t) {
		if got := impl.SeaText(bad); got != "" {
			t.Errorf("%s: got %q", name, got)
		}
	}
}

func TestSeasAreRead(t *testing.T) {
	for _, s := range append(manySeas(), still(t, 1, 1, 1), still(t, 6, 6, 0)) {
		text := impl.SeaText(s)
		back, code := impl.ReadSea(text)
		if back != s || code != impl.OK {
			t.Fatalf("%q: %v %d", text, back, code)
		}
		for name, other := range map[string]string{
			"no end": text[:len(text)-1], "blank line": text + "\n", "one line more": text + "land\n",
			"leading line": "\n" + text, "leading blank": " " + text, "leading zero": "0" + text, "sign": "+" + text,
			"returns": strings.ReplaceAll(text, "\n", "\r\n"), "trailing blanks": strings.ReplaceAll(text, "\n", " \n"),
			"two blanks": strings.ReplaceAll(text, " ", "  "), "tabs": strings.ReplaceAll(text, " ", "\t"),
			"zero byte": text + "\x00", "twice": text + text, "no line": text[strings.IndexByte(text, '\n')+1:],
		} {
			got, code := impl.ReadSea(other)
			if got != (impl.Sea{}) || code != impl.ErrSyntax {
				t.Fatalf("%s: %q is read", name, other)
			}
		}
	}
}

func TestReadSeaErrors(t *testing.T) {
	water := "12,0,0,0,0 12,0,0,0,0\n"
	for _, text := range []string{
		"", "\n", "1\n" + water, "1 1\n", "1 1", "1 1\n\n", "1 1\nlake\n", "1 1\nLand\n", "1 1\nland \n", "1 1\nland land\n",
		"0 1\n", "1 0\n", "0 0\n", "-1 1\n" + water, "7 1\n" + strings.Repeat(water, 7), "1 7\n" + strings.Repeat(water, 7),
		"257 1\n" + water, "1 1 1\n" + water, "1,1\n" + water, "a b\n" + water, "1 01\n" + water, "1 +1\n" + water,
		"1 1\n12,0,0,0,0\n", "1 1\n12,0,0,0,0 \n", "1 1\n 12,0,0,0,0\n", "1 1\n12,0,0,0,0 land\n", "1 1\n12,0,0,0,0 11,0,0,0,0\n",
		"1 1\n11,0,0,0,0 12,0,0,0,0\n", "1 1\n012,0,0,0,0 12,0,0,0,0\n", "1 1\n12,0,0,0,0 12,0,0,0,0 12,0,0,0,0\n",
		"2 1\n" + water, "2 1\n" + water + "\n" + water, "1 1\n" + water + water, "1 2\n" + water + "land",
		strings.Repeat("\n", 1000000), "6 6\n" + strings.Repeat("land\n", 100000), strings.Repeat(" ", 1000000),
	} {
		s, code := impl.ReadSea(text)
		if s != (impl.Sea{}) || code != impl.ErrSyntax {
			t.Errorf("%.60q: %v %d", text, s, code)
		}
	}
	s, code := impl.ReadSea("2 1\nland\n" + water)
	if s != still(t, 2, 1, 1) || code != impl.OK {
		t.Errorf("%v %d", s, code)
	}
}
