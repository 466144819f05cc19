package tests

import (
	"strings"
	"testing"

	"loop.example/g01300/impl"
)

func TestSpreadText(t *testing.T) {
	s := eastward(t)
	for _, one := range []struct {
		x    impl.Spread
		want string
	}{
		{impl.Spread{Bottles: 1, At: [36]int64{1}}, "0 0 1\n0 1\n"},
		{impl.Spread{Begin: 1, Hours: 1, Bottles: 2, At: [36]int64{2: 5, 8: 12}, Out: 7}, "1 1 2\n2 5\n8 12\nout 7\n"},
		{impl.Spread{Hours: 14, Bottles: 1000, Out: 1000 * power(14)}, "0 14 1000\nout 1283918464548864000\n"},
	} {
		if got := impl.SpreadText(s, one.x); got != one.want {
			t.Errorf("got %q, want %q", got, one.want)
		}
		x, code := impl.ReadSpread(s, one.want)
		if x != one.x || code != impl.OK {
			t.Errorf("%q: %v %d", one.want, x, code)
		}
	}
}

func TestSpreadsAreRead(t *testing.T) {
	for _, s := range manySeas()[:100] {
		for _, x := range manySpreads(s) {
			text := impl.SpreadText(s, x)
			back, code := impl.ReadSpread(s, text)
			if back != x || code != impl.OK {
				t.Fatalf("%q: %v %d", text, back, code)
			}
			others := textsBeside(text)
			others["nothing out"] = text + "out 0\n"
			for name, other := range others {
				got, code := impl.ReadSpread(s, other)
				if got != (impl.Spread{}) || code != impl.ErrSyntax {
					t.Fatalf("%s: %q is read", name, other)
				}
			}
		}
	}
}

func TestReadSpreadErrors(t *testing.T) {
	s := eastward(t)
	for _, text := range []string{
		"", "\n", "0 0 1", "0 0 1\n", "0 0 1\n\n", "0 0\n0 1\n", "0 0 1 1\n0 1\n", "0,0,1\n0 1\n", "a 0 1\n0 1\n",
		"2 0 1\n0 1\n", "-1 0 1\n0 1\n", "256 0 1\n0 1\n", "0 15 1\nout 15407021574586368\n", "0 -1 1\n0 1\n", "0 256 1\n0 1\n",
		"0 0 0\n", "0 0 0\n0 0\n", "0 0 -1\n0 -1\n", "0 0 1001\n0 1001\n", "0 0 18446744073709551617\n0 1\n",
		"00 0 1\n0 1\n", "0 0 01\n0 1\n", "0 0 +1\n0 1\n", "0 0 1\n0 01\n", "0 0 1\n00 1\n", "0 0 1\n+0 1\n", "0 0 1\n0 +1\n",
		"0 0 1\n0 2\n", "0 0 2\n0 1\n", "0 0 1\n0\n", "0 0 1\n0 \n", "0 0 1\n0 1 1\n", "0 0 1\n0 1\n1 0\n", "0 0 1\n0 2\n1 -1\n",
		"0 0 2\n1 1\n0 1\n", "0 0 2\n0 1\n0 1\n", "0 0 1\n0 2\n0 1\n", "0 0 1\n3 1\n", "0 0 1\n12 1\n", "0 0 1\n36 1\n", "0 0 1\n-1 1\n",
		"0 0 1\n9223372036854775808 1\n", "0 0 1\n0 18446744073709551617\n", "0 0 1\n4294967296 1\n",
		"0 0 1\nOut 1\n", "0 0 1\nout\n", "0 0 1\nout 01\n", "0 0 1\nlost 1\n", "0 0 2\nout 1\n0 1\n", "0 0 2\nout 1\nout 1\n", "0 0 1\nout 2\nout 1\n",
		"0 0 1\n0 1\nout 0\n", "0 0 1\n0 1 \n", "0 0 1\n0 1\n ", "0 0 1\n0x0 1\n", "0 0 1\n0 1_0\n", "0 0 1\n0 1.0\n",
		strings.Repeat("\n", 1000000), strings.Repeat(" ", 1000000), "0 0 1\n" + strings.Repeat("0 1\n", 250000), "0 0 1\n0 " + strings.Repeat("0", 1000000),
	} {
		x, code := impl.ReadSpread(s, text)
		if x != (impl.Spread{}) || code != impl.ErrSyntax {
			t.Errorf("%.60q: %v %d", text, x, code)
		}
	}
	for name, bad := range badSeas(t) {
		_, one := impl.ReadSpread(bad, "0 0 1\n0 1\n")
		_, two := impl.ReadSpread(bad, "")
		same(t, name, "1 1", one, two)
	}
}
