package tests

import (
	"slices"
	"strings"
	"testing"

	"loop.example/g01300/impl"
)

func TestFindsText(t *testing.T) {
	s := still(t, 6, 6, bits(0, 2, 35))
	for _, one := range []struct {
		list []impl.Find
		want string
	}{
		{nil, ""},
		{[]impl.Find{{Beach: 2, Hour: 1}}, "2 1\n"},
		{[]impl.Find{{Beach: 35, Hour: 14}, {Beach: 0, Hour: 9}, {Beach: 35, Hour: 14}}, "35 14\n0 9\n35 14\n"},
		{repeated(impl.Find{Beach: 35, Hour: 10}, 60), strings.Repeat("35 10\n", 60)},
	} {
		if got := impl.FindsText(s, one.list); got != one.want {
			t.Errorf("got %q, want %q", got, one.want)
		}
		list, code := impl.ReadFinds(s, one.want)
		if !slices.Equal(list, one.list) || code != impl.OK {
			t.Errorf("%q: %v %d", one.want, list, code)
		}
	}
}

func TestFindsAreRead(t *testing.T) {
	for _, s := range coastalSeas()[:100] {
		for _, list := range manyFinds(s) {
			text := impl.FindsText(s, list)
			back, code := impl.ReadFinds(s, text)
			if !slices.Equal(back, list) || code != impl.OK {
				t.Fatalf("%q: %v %d", text, back, code)
			}
			if len(list) == 0 {
				continue
			}
			for name, other := range map[string]string{
				"no end": text[:len(text)-1], "blank line": text + "\n", "leading line": "\n" + text, "leading blank": " " + text,
				"leading zero": "0" + text, "sign": "+" + text, "minus": "-" + text, "returns": strings.ReplaceAll(text, "\n", "\r\n"),
				"trailing blanks": strings.ReplaceAll(text, "\n", " \n"), "two blanks": strings.ReplaceAll(text, " ", "  "),
				"tabs": strings.ReplaceAll(text, " ", "\t"), "zero byte": text + "\x00", "commas": strings.ReplaceAll(text, " ", ","),
				"hours with zeros": strings.ReplaceAll(text, " ", " 0"), "three numbers": strings.ReplaceAll(text, "\n", " 1\n"),
				"one line": strings.ReplaceAll(text, "\n", " "), "blank lines": strings.ReplaceAll(text, "\n", "\n\n"),
			} {
				got, code := impl.ReadFinds(s, other)
				if len(got) != 0 || code != impl.ErrSyntax {
					t.Fatalf("%s: %q is read", name, other)
				}
			}
		}
	}
}

func TestReadFindsErrors(t *testing.T) {
	s := eastward(t)
	for _, text := range []string{
		"\n", " ", "2", "2\n", "2 \n", " 1\n", "2 1", "2 1\n2 1", "2 1\n\n", "\n2 1\n", "2 1\n2\n", "2 1 1\n", "a 1\n", "2 a\n", "a\n",
		"0 1\n", "1 1\n", "3 1\n", "8 1\n", "12 1\n", "36 1\n", "-1 1\n", "258 1\n", "-254 1\n", "4294967298 1\n", "18446744073709551618 1\n",
		"2 0\n", "2 15\n", "2 -1\n", "2 257\n", "2 -255\n", "2 4294967297\n", "2 18446744073709551617\n",
		"02 1\n", "2 01\n", "+2 1\n", "2 +1\n", "2 0x1\n", "2 1_0\n", "2 1.0\n", "2 1e0\n", "-0 1\n", "2 -0\n", "２ 1\n", "\xff 1\n",
		"2 1\n2 1 \n", "2 1\n2 15\n", "2 1\n0 1\n", "2 1\r\n", "2\t1\n", "2 1\x00\n",
		strings.Repeat("2 1\n", 61), strings.Repeat("2 1\n", 60) + "\n", strings.Repeat("2 1\n", 60) + "2", strings.Repeat("2 1\n", 250000),
		strings.Repeat("\n", 1000000), strings.Repeat(" ", 1000000), strings.Repeat("2", 1000000), "2 " + strings.Repeat("0", 999990) + "1\n",
	} {
		list, code := impl.ReadFinds(s, text)
		if len(list) != 0 || code != impl.ErrSyntax {
			t.Errorf("%.60q: %v %d", text, list, code)
		}
	}
	// Without land, the empty text alone is one of finds.
	wet := still(t, 3, 2, 0)
	list, one := impl.ReadFinds(wet, "")
	_, two := impl.ReadFinds(wet, "2 1\n")
	same(t, "no land", "0 0 5", len(list), one, two)
}
