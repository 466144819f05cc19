package tests

import (
	"strings"
	"testing"

	"loop.example/g01300/impl"
)

func TestPlanText(t *testing.T) {
	s := eastward(t)
	for _, one := range []struct {
		p    impl.Plan
		want string
	}{
		{examplePlan(), "0 2\n0 0 1\n1 1 1\n"},
		{impl.Plan{Begin: 1, Hours: 8}, "1 8\n"},
		{planOf(1, 8, [3]int{8, 7, 200}, [3]int{0, 0, 13}, [3]int{8, 7, 200}), "1 8\n8 7 200\n0 0 13\n8 7 200\n"},
	} {
		if got := impl.PlanText(s, one.p); got != one.want {
			t.Errorf("got %q, want %q", got, one.want)
		}
		p, code := impl.ReadPlan(s, one.want)
		if !impl.SamePlan(p, one.p) || code != impl.OK {
			t.Errorf("%q: %v %d", one.want, p, code)
		}
	}
	for name, p := range badPlans() {
		same(t, name, "true", impl.PlanText(s, p) == "")
	}
	for name, bad := range badSeas(t) {
		same(t, name, "true true", impl.PlanText(bad, examplePlan()) == "", impl.PlanText(bad, impl.Plan{Hours: 1}) == "")
	}
}

func TestPlansAreRead(t *testing.T) {
	for _, c := range manyPlans() {
		text := impl.PlanText(c.s, c.p)
		back, code := impl.ReadPlan(c.s, text)
		if !impl.SamePlan(back, c.p) || code != impl.OK {
			t.Fatalf("%q: %v %d", text, back, code)
		}
		others := textsBeside(text)
		others["no bottles"] = text + "0 0 0\n"
		for name, other := range others {
			got, code := impl.ReadPlan(c.s, other)
			if !impl.SamePlan(got, impl.Plan{}) || code != impl.ErrSyntax {
				t.Fatalf("%s: %q is read as %v", name, other, got)
			}
		}
	}
}

func TestReadPlanErrors(t *testing.T) {
	s := eastward(t)
	for _, text := range []string{
		"", "\n", " ", "0", "0\n", "0 2", "0 2 0\n", "02\n", "0,2\n", "a 2\n", "0 b\n", "0 2\n\n", "0 2\n0 0 1", "0 2\n0 0\n", "0 2\n0 0 1 1\n",
		"2 2\n", "-1 2\n", "256 2\n", "0 0\n", "0 9\n", "0 -1\n", "0 258\n", "0 18446744073709551618\n", "00 2\n", "0 02\n", "0 +2\n",
		"0 2\n2 0 1\n", "0 2\n3 0 1\n", "0 2\n12 0 1\n", "0 2\n36 0 1\n", "0 2\n64 0 1\n", "0 2\n-1 0 1\n", "0 2\n256 0 1\n", "0 2\n4294967296 0 1\n",
		"0 2\n0 2 1\n", "0 2\n0 -1 1\n", "0 2\n0 256 1\n", "0 2\n0 0 0\n", "0 2\n0 0 -1\n", "0 2\n0 0 201\n", "0 2\n0 0 65537\n", "0 2\n0 0 1001\n",
		"0 2\n00 0 1\n", "0 2\n0 00 1\n", "0 2\n0 0 01\n", "0 2\n+0 0 1\n", "0 2\n0 0 1.0\n", "0 2\n0 0 1_0\n", "0 2\n0 0 0x1\n", "0 2\n0 0 1 \n", "0 2\n 0 0 1\n", "0 2\n0  0 1\n",
		"0 2\n0 0 one\n", "0 2\nout 0 1\n", "0 2\n0 0 1\n ", "0 2\n0 0 1\n\n1 1 1\n", "0 2\n0 0 1\n1 1 1", "0 2\n0 0 1\n1 1\n",
		"0 2\n" + strings.Repeat("0 0 1\n", 13), "0 2\n" + strings.Repeat("0 0 200\n", 6), "0 2\n" + strings.Repeat("0 0 1\n", 160000),
		strings.Repeat("\n", 1000000), strings.Repeat(" ", 1000000), "0 " + strings.Repeat("0", 1000000), "0 2\n" + strings.Repeat("0 ", 500000) + "\n",
	} {
		p, code := impl.ReadPlan(s, text)
		if !impl.SamePlan(p, impl.Plan{}) || code != impl.ErrSyntax {
			t.Errorf("%.60q: %v %d", text, p, code)
		}
	}
	for _, text := range []string{"0 2\n" + strings.Repeat("0 0 1\n", 12), "1 8\n" + strings.Repeat("8 7 200\n", 5)} {
		p, code := impl.ReadPlan(s, text)
		same(t, "most", "0 true", code, impl.PlanText(s, p) == text)
	}
	for name, bad := range badSeas(t) {
		_, one := impl.ReadPlan(bad, "0 2\n0 0 1\n")
		_, two := impl.ReadPlan(bad, "no plan")
		p, three := impl.ReadPlan(bad, "")
		same(t, name, "1 1 {0 0 []} 1", one, two, p, three)
	}
}
