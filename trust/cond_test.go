package trust_test

import (
	"math"
	"strings"
	"testing"

	"trustquery/trust"
)

func runConds(t *testing.T, attrs string, cases []worthCase) {
	t.Helper()
	for _, c := range cases {
		if worth, errno := trust.Cond(cond(c.expr), 0, attrs, "no,maybe,yes"); worth != c.worth || errno != trust.OK {
			t.Errorf("Cond of %.90q with %q: %q, %d, want %q, OK", c.expr, attrs, worth, errno, c.worth)
		}
	}
}

func TestCondExamples(t *testing.T) {
	runConds(t, "", []worthCase{
		{"true", "yes"}, {"false", "no"}, {"false -> yes; true -> maybe", "maybe"}, {"1 / 0 == 1 -> yes; true -> maybe", "maybe"},
		{"true -> {false}", "no"}, {"true -> {true -> no; true}", "yes"},
	})
	if worth, errno := trust.Cond(cond("true -> some"), 0, "", "no,maybe,yes"); worth != "" || errno != trust.ErrValue {
		t.Errorf("with a result that is no value: %q, %d", worth, errno)
	}
}

func TestConds(t *testing.T) {
	runConds(t, "a=4;b=x", []worthCase{
		{"true -> yes", "yes"}, {"true -> maybe", "maybe"}, {"true -> no", "no"}, {"false -> yes", "no"}, {"false -> no", "no"},
		{"true -> maybe; true -> yes", "yes"}, {"true -> yes; true -> maybe", "yes"}, {"true -> maybe; true -> no", "maybe"}, {"true -> no; true -> maybe", "maybe"},
		{"true -> no; true", "yes"}, {"true; true -> no", "yes"}, {"false; true -> maybe; false -> yes", "maybe"}, {"false; false -> yes; false", "no"},
		{"@b == 1", "no"}, {"@b == 1 -> yes", "no"}, {"!(@b == 1)", "no"}, {"@b != 1; @a == 4 -> maybe", "maybe"}, {"@gone == 0; 1 % 0 == 0; 999999999 + 1 > 0", "no"},
		{"@a == 4 -> maybe", "maybe"}, {"a . b == \"4x\"", "yes"}, {"gone == \"\" -> maybe", "maybe"}, {"true || @b == 1 -> maybe", "maybe"}, {"false && @b == 1", "no"},
		{"true -> {true}", "yes"}, {"true -> {true -> maybe}", "maybe"}, {"true -> {false -> yes; false}", "no"}, {"false -> {true}", "no"}, {"@b == 1 -> {true}", "no"},
		{"true -> {@b == 1; true -> maybe}", "maybe"}, {"true -> {true -> maybe}; true -> no", "maybe"}, {"true -> {true -> maybe}; true", "yes"},
		{"true -> {true -> no}; true -> {true -> maybe}", "maybe"}, {"true -> {true -> maybe}; true -> {true -> no}", "maybe"}, {"false -> {true}; true -> {true -> maybe}", "maybe"},
		{"true -> {true -> {true -> {a == \"4\" -> maybe}}; false}", "maybe"}, {"true -> {false -> {true}; true -> {true -> no}}", "no"},
		{strings.Repeat("true->{", 71) + "true->maybe" + strings.Repeat("}", 71), "maybe"},
		{strings.Repeat("true->{", 72) + "false" + strings.Repeat("}", 72), "no"},
		{"false" + strings.Repeat(";false", 90) + "; true -> maybe", "maybe"},
	})
}

// P6: values go by their place in the list, not by their names.
func TestOtherValues(t *testing.T) {
	for _, c := range []struct{ conds, values, worth string }{
		{"true", "yes,no", "no"}, {"false", "yes,no", "yes"}, {"true -> yes; true -> no", "yes,no", "no"}, {"true -> yes", "yes,no", "yes"},
		{"true -> b; true -> d; true -> c", "e,d,c,b,a", "b"}, {"true -> a", "b,A,a,aa", "a"}, {"true -> A; false", "b,A,a,aa", "A"},
		{"true -> true; true -> false", "true,false", "false"}, {"true -> POLICY", "no,POLICY,yes", "POLICY"},
	} {
		if worth, errno := trust.Cond(cond(c.conds), 0, "", c.values); worth != c.worth || errno != trust.OK {
			t.Errorf("Cond of %q with %q: %q, %d, want %q", c.conds, c.values, worth, errno, c.worth)
		}
	}
}

func TestWhichAssertion(t *testing.T) {
	set, want := "", []string{"no", "maybe", "yes", "maybe", "no", "yes", "yes", "maybe"}
	for _, value := range want {
		set += cond("true -> {true -> " + value + "}")
	}
	for k, value := range want {
		if worth, errno := trust.Cond(set, k, "", "no,maybe,yes"); worth != value || errno != trust.OK {
			t.Errorf("assertion %d: %q, %d, want %q", k, worth, errno, value)
		}
	}
	for _, c := range []struct {
		set string
		k   int
	}{
		{set, 8}, {set, -1}, {set, math.MaxInt}, {set, math.MinInt}, {set, 1 << 32}, {plain, 1}, {"", 0}, {"", -1},
	} {
		if worth, errno := trust.Cond(c.set, c.k, "", "no,maybe,yes"); worth != "" || errno != trust.ErrNone {
			t.Errorf("assertion %d: %q, %d, want ErrNone", c.k, worth, errno)
		}
	}
}

func TestResultsAreValues(t *testing.T) {
	for _, set := range []string{
		cond("true -> some"), cond("false -> some"), cond("1 / 0 == 1 -> some"), cond("true -> yes; true -> some"), cond("true -> some; true -> yes"),
		cond("false -> {true -> some}"), cond("true -> {true -> {false -> some}; true}"), cond("true -> Yes"), cond("true -> ye"), cond("true -> yess"), cond("true -> true"),
		plain + cond("true -> some"), cond("true -> some") + plain, plain + plain + cond("false -> {false -> some}"),
	} {
		for _, k := range []int{0, 1, 9, -1} {
			if worth, errno := trust.Cond(set, k, "", "no,maybe,yes"); worth != "" || errno != trust.ErrValue {
				t.Errorf("Cond(%q, %d) = %q, %d, want ErrValue", set, k, worth, errno)
			}
		}
	}
	if worth, errno := trust.Cond("by some\nto some\nif some == \"some\"\n", 0, "some=some", "no,yes"); worth != "yes" || errno != trust.OK {
		t.Errorf("a name that is no result: %q, %d", worth, errno)
	}
}

// The answer is the error that P6 names first: every row has all the errors of
// the rows below it, too.
func TestCondOrder(t *testing.T) {
	long, some := strings.Repeat("=", 101), "true -> some"
	bad, many := "by A\nto B |", strings.Repeat(to("0-of(B)")+cond("1 -> x"), 9)
	for _, c := range []struct {
		set, attrs, values string
		errno              trust.Errno
	}{
		{strings.Repeat("x", 601), "=", "", trust.ErrLong},
		{bad, long, "", trust.ErrLong},
		{bad, "=", strings.Repeat(",", 61), trust.ErrLong},
		{plain, long, "no,yes", trust.ErrLong},
		{plain, "", strings.Repeat("a", 61), trust.ErrLong},
		{many + bad, "=", "", trust.ErrSyntax},
		{many, "=", "", trust.ErrMany},
		{to("0-of(B)") + cond("1 -> x"), "=", "", trust.ErrCount},
		{cond("1 -> x"), "=", "", trust.ErrType},
		{cond(some), "=", "no,maybe", trust.ErrList},
		{cond(some), "", "no", trust.ErrList},
		{cond(some), "=", "no", trust.ErrList},
		{cond(some), "", "no,yes", trust.ErrValue},
		{plain, "", "no,yes", trust.ErrNone},
	} {
		if worth, errno := trust.Cond(c.set, 9, c.attrs, c.values); worth != "" || errno != c.errno {
			t.Errorf("Cond(%.60q, 9, %.60q, %.60q) = %q, %d, want %d", c.set, c.attrs, c.values, worth, errno, c.errno)
		}
	}
}

// The error of Check and the texts' full length.
func TestCondReadsSets(t *testing.T) {
	for _, set := range append(deepSets(), "x", strings.Repeat(plain, 9), to("0-of(B)"), cond("1"), strings.Repeat("\xff", 600)) {
		errno, _ := trust.Check(set)
		if errno == trust.OK {
			continue
		}
		if worth, got := trust.Cond(set, 0, "", "no,yes"); worth != "" || got != errno {
			t.Errorf("Cond(%.90q) = %q, %d, want %d", set, worth, got, errno)
		}
	}
	full := cond(strings.Repeat(" ", 600-len(plain)) + "true")
	if worth, errno := trust.Cond(full, 0, "", "no,yes"); worth != "yes" || errno != trust.OK {
		t.Errorf("a set of 600 bytes: %q, %d", worth, errno)
	}
	if worth, errno := trust.Cond(full+"\n", 0, "", "no,yes"); worth != "" || errno != trust.ErrLong {
		t.Errorf("a set of 601 bytes: %q, %d", worth, errno)
	}
}
