package trust_test

import (
	"strings"
	"testing"

	"trustquery/trust"
)

func said(by, lic, conds string) string {
	return "by " + by + "\nto " + lic + "\nif " + conds + "\n"
}

// A queryCase has a row only where no other is one, or "?" where several are.
type queryCase struct {
	set, attrs, values, reqs string
	value, row               string
	errno                    trust.Errno
}

func runQueries(t *testing.T, cases []queryCase) {
	t.Helper()
	for _, c := range cases {
		if value, errno := trust.Query(c.set, c.attrs, c.values, c.reqs); value != c.value || errno != c.errno {
			t.Errorf("Query(%.400q, %.40q, %.70q, %.70q) = %q, %d, want %q, %d", c.set, c.attrs, c.values, c.reqs, value, errno, c.value, c.errno)
		}
		row, errno := trust.Chain(c.set, c.attrs, c.values, c.reqs)
		if c.row == "?" && row != "" {
			row = "?"
		}
		if row != c.row || errno != c.errno {
			t.Errorf("Chain(%.400q, %.40q, %.70q, %.70q) = %q, %d, want %q, %d", c.set, c.attrs, c.values, c.reqs, row, errno, c.row, c.errno)
		}
	}
}

func TestQueryExamples(t *testing.T) {
	three := "no,maybe,yes"
	two := "by POLICY\nto A\nif true\nby A\nto B\nif true -> maybe\n"
	of := "by POLICY\nto 2-of(A, B, C)\nif true\n"
	runQueries(t, []queryCase{
		{two, "", three, "B", "maybe", "01", trust.OK},
		{two, "", three, "C", "no", "", trust.OK},
		{of, "", three, "A,C", "yes", "0", trust.OK},
		{of, "", three, "C", "no", "", trust.OK},
		{"", "", "no,yes", "A", "no", "", trust.OK},
		{of, "", three, "A,POLICY", "", "", trust.ErrList},
	})
	readme := "by POLICY\nto A\nif true\nby A\nto B && C\nif @n < 9 -> maybe\n"
	runQueries(t, []queryCase{
		{readme, "n=4", three, "B,C", "maybe", "01", trust.OK},
		{readme, "n=4", three, "B", "no", "", trust.OK},
		{readme, "n=4", three, "POLICY", "", "", trust.ErrList},
	})
}

// One assertion by POLICY, to this licence: A, B, C stand at the levels that
// the words ahead of the licence say, X and Y stand at the lowest.
func TestLicenceStandings(t *testing.T) {
	for _, c := range []struct{ a, b, c, lic, value string }{
		{"d", "c", "b", "A", "d"}, {"d", "c", "b", "B", "c"}, {"d", "c", "b", "X", "a"}, {"d", "c", "b", "R", "e"}, {"d", "c", "b", "(((B)))", "c"},
		{"d", "c", "b", "A && B", "c"}, {"d", "c", "b", "B && A", "c"}, {"d", "c", "b", "A || B", "d"}, {"d", "c", "b", "B || A", "d"},
		{"d", "c", "b", "A && X", "a"}, {"d", "c", "b", "X && A", "a"}, {"d", "c", "b", "X || B", "c"}, {"d", "c", "b", "X || Y", "a"}, {"d", "c", "b", "A && R", "d"}, {"d", "c", "b", "R || A", "e"},
		{"d", "c", "b", "A && B && C", "b"}, {"d", "c", "b", "C || B || A", "d"}, {"d", "c", "b", "A || B && C", "d"}, {"d", "c", "b", "C && B || A", "d"},
		{"d", "c", "b", "(A || B) && C", "b"}, {"d", "c", "b", "C && (B || A)", "b"}, {"b", "c", "d", "A && B || B && C", "c"}, {"b", "c", "d", "(A || B) && (B || C)", "c"},
		{"d", "c", "b", "1-of(A)", "d"}, {"d", "c", "b", "1-of(C, B, A)", "d"}, {"d", "c", "b", "2-of(A, B, C)", "c"}, {"d", "c", "b", "2-of(C, A, B)", "c"}, {"d", "c", "b", "3-of(B, A, C)", "b"},
		{"c", "c", "b", "1-of(A, B, C)", "c"}, {"c", "c", "b", "2-of(A, B, C)", "c"}, {"c", "c", "b", "3-of(A, B, C)", "b"}, {"c", "c", "c", "3-of(A, B, C)", "c"},
		{"d", "c", "b", "2-of(A, A, X)", "d"}, {"d", "c", "b", "2-of(A, X, Y)", "a"}, {"d", "c", "b", "3-of(A, B, X)", "a"}, {"d", "c", "b", "2-of(R, X, C)", "b"}, {"d", "c", "b", "2-of(R, S, C)", "e"},
		{"d", "c", "b", "2-of(A && B, C, X)", "b"}, {"d", "c", "b", "2-of(A && C, B || C, X)", "b"}, {"d", "c", "b", "1-of(2-of(A, X), 2-of(B, R))", "c"}, {"d", "c", "b", "2-of(1-of(X, B), 2-of(A, R, X))", "c"},
		{"d", "c", "b", "9-of(A, A, B, B, B, C, C, C, C)", "b"}, {"d", "c", "b", "9-of(A, A, B, B, B, C, C, C, X)", "a"}, {"d", "c", "b", "9-of(A, A, B, B, B, C, C, C, X, C, X)", "b"},
		{"d", "c", "b", "5-of(C, B, A, B, A, B, C)", "c"}, {"d", "c", "b", "6-of(C, B, A, B, A, B, C)", "b"}, {"a", "a", "a", "A || B || C", "a"}, {"a", "a", "a", "1-of(A, R)", "e"},
		{"d", "c", "b", strings.Repeat("1-of(X,", 50) + "B" + strings.Repeat(")", 50), "c"}, {"d", "c", "b", strings.Repeat("A&&(X||", 30) + "B" + strings.Repeat(")", 30), "c"},
	} {
		set := said("POLICY", c.lic, "true") + said("A", "R", "true -> "+c.a) + said("B", "R && S", "true -> "+c.b) + said("C", "S", "true -> "+c.c)
		row := "?"
		if c.value == "a" {
			row = ""
		}
		runQueries(t, []queryCase{{set, "", "a,b,c,d,e", "R,S", c.value, row, trust.OK}})
	}
}

func TestStandings(t *testing.T) {
	three := "no,maybe,yes"
	toA, toB := said("POLICY", "A", "true"), said("POLICY", "B", "true")
	runQueries(t, []queryCase{
		{toA, "", three, "", "no", "", trust.OK},
		{toA, "", three, "a", "no", "", trust.OK},
		{toA, "", three, "AA", "no", "", trust.OK},
		{plain, "", three, "A,B", "no", "", trust.OK},
		{said("POLICY", "A", "false"), "", three, "A", "no", "", trust.OK},
		{said("POLICY", "A", "true -> no"), "", three, "A", "no", "", trust.OK},
		{said("POLICY", "A", "1 / 0 == 1"), "", three, "A", "no", "", trust.OK},
		{said("POLICY", "A", "true -> maybe"), "", three, "A", "maybe", "0", trust.OK},
		{said("POLICY", "A", "@a > 1 -> maybe; @a > 2"), "a=2", three, "A", "maybe", "0", trust.OK},
		{said("POLICY", "A", "@a > 1 -> maybe; @a > 2"), "a=3", three, "A", "yes", "0", trust.OK},
		{said("POLICY", "A", "@a > 1 -> maybe; @a > 2"), "a=1", three, "A", "no", "", trust.OK},
		{said("POLICY", "A", "true -> {true -> {true -> maybe}}"), "", three, "A", "maybe", "0", trust.OK},
		// the highest of several by the same
		{said("POLICY", "A", "true -> maybe") + toA, "", three, "A", "yes", "?", trust.OK},
		{toA + said("POLICY", "A", "true -> maybe"), "", three, "A", "yes", "?", trust.OK},
		{toA + toB, "", three, "B", "yes", "1", trust.OK},
		{toA + said("A", "B", "true -> maybe") + said("A", "C", "true"), "", three, "B", "maybe", "01", trust.OK},
		{toA + said("A", "B", "true -> maybe") + said("A", "C", "true"), "", three, "B,C", "yes", "?", trust.OK},
		// a requester stands at the highest, whatever assertions are by him
		{toA + said("A", "B", "false"), "", three, "A", "yes", "0", trust.OK},
		{toA + said("A", "B", "true -> maybe"), "", three, "A,B", "yes", "?", trust.OK},
		{toA + said("A", "X", "true"), "", three, "A", "yes", "0", trust.OK},
		// the lowest on the way, wherever it is
		{toA + said("A", "B", "true -> maybe") + said("B", "C", "true"), "", three, "C", "maybe", "012", trust.OK},
		{said("POLICY", "A", "true -> maybe") + said("A", "B", "true") + said("B", "C", "true"), "", three, "C", "maybe", "012", trust.OK},
		{toA + said("A", "B", "true") + said("B", "C", "true -> maybe"), "", three, "C", "maybe", "012", trust.OK},
		{toA + said("A", "B", "true") + said("B", "C", "true -> no"), "", three, "C", "no", "", trust.OK},
		// trust goes one way
		{toA + said("B", "A", "true"), "", three, "B", "no", "", trust.OK},
		{said("A", "POLICY", "true"), "", three, "A", "no", "", trust.OK},
		// nobody lifts himself
		{said("POLICY", "POLICY", "true"), "", three, "A", "no", "", trust.OK},
		{toA + said("A", "A", "true"), "", three, "B", "no", "", trust.OK},
		{toA + said("A", "B", "true") + said("B", "A", "true"), "", three, "C", "no", "", trust.OK},
		{toA + said("A", "POLICY", "true"), "", three, "B", "no", "", trust.OK},
		{toA + said("A", "B && C", "true") + said("B", "A || C", "true"), "", three, "C", "yes", "?", trust.OK},
		{toA + said("A", "B && C", "true") + said("B", "A && C", "true"), "", three, "C", "no", "", trust.OK},
		{said("POLICY", "POLICY || A", "true -> maybe"), "", three, "A", "maybe", "0", trust.OK},
		{said("POLICY", "POLICY && A", "true"), "", three, "A", "no", "", trust.OK},
		{said("POLICY", "2-of(POLICY, A, B)", "true") + said("POLICY", "A", "true -> maybe"), "", three, "A", "maybe", "?", trust.OK},
		// by way of POLICY itself
		{said("POLICY", "B && C", "true") + said("B", "POLICY", "true") + said("POLICY", "A", "true -> maybe"), "", three, "A,C", "maybe", "?", trust.OK},
		// who the values are called after is nobody
		{said("POLICY", "yes", "true -> no"), "", "yes,no", "yes", "no", "0", trust.OK},
		{said("POLICY", "A", "true -> POLICY"), "", "no,POLICY,A", "A", "POLICY", "0", trust.OK},
		{toA, "", "yes,no", "A", "no", "0", trust.OK},
		{toA, "", "yes,no", "B", "yes", "", trust.OK},
		{said("policy", "A", "true"), "", three, "A", "no", "", trust.OK},
	})
}

// Rows of all eight assertions, in this order and that, to a requester at the end.
func TestLongWays(t *testing.T) {
	ends := []string{"POLICY", "A", "B", "C", "D", "E", "F", "G", "H"}
	for _, worth := range []string{"true", "true -> maybe"} {
		ahead, back := "", ""
		for i := 0; i < 8; i++ {
			conds := "true"
			if i == 7 {
				conds = worth
			}
			one := said(ends[i], ends[i+1], conds)
			ahead += one
			back = one + back
		}
		value := map[string]string{"true": "yes", "true -> maybe": "maybe"}[worth]
		mixed := said("G", "H", worth) + said("A", "B", "true") + said("C", "D", "true") + said("E", "F", "true") + said("POLICY", "A", "true") + said("B", "C", "true") + said("D", "E", "true") + said("F", "G", "true")
		runQueries(t, []queryCase{
			{ahead, "", "no,maybe,yes", "H", value, "01234567", trust.OK},
			{back, "", "no,maybe,yes", "H", value, "76543210", trust.OK},
			{mixed, "", "no,maybe,yes", "H", value, "41526370", trust.OK},
			{ahead, "", "no,maybe,yes", "POLICYA", "no", "", trust.OK},
			{ahead, "", "no,maybe,yes", "E", "yes", "01234", trust.OK},
		})
	}
}

func TestRows(t *testing.T) {
	no, yes := "false", "true"
	for _, c := range []struct{ set, reqs, row string }{
		{said("POLICY", "A", no) + said("POLICY", "A", yes), "A", "1"},
		{said("POLICY", "A", yes) + said("A", "B", no) + said("A", "B", yes), "B", "02"},
		{said("POLICY", "A || B", yes) + said("A", "C", no) + said("B", "C", yes), "C", "02"},
		{said("POLICY", "A || B", yes) + said("A", "X", yes) + said("B", "C", yes), "C", "02"},
		{said("POLICY", "X || (Y && 1-of(Z, A))", yes) + said("Y", "A", yes) + said("Z", "X", yes) + said("A", "X", yes), "", ""},
		{said("POLICY", "X || (Y && 1-of(Z, Q))", yes) + said("Y", "X", yes) + said("Z", "X", yes) + said("Q", "X", yes), "X", "0"},
		{said("POLICY", "Y || 1-of(Z, Q)", yes) + said("Q", "(W || 1-of(V, X)) || U", yes) + said("X", "T", yes), "T", "012"},
		{said("X", "T", yes) + said("Q", "(W || 1-of(V, X)) || U", yes) + said("POLICY", "Y || 1-of(Z, Q)", yes), "T", "210"},
		{said("POLICY", "A", yes) + said("A", "POLICY", yes) + said("A", "A", yes) + said("A", "B", yes) + said("B", "A", yes) + said("B", "C", yes), "C", "035"},
		{said("Q", "R", yes) + said("POLICY", "Q", no) + said("POLICY", "S", yes) + said("S", "R", no) + said("S", "Q", yes), "R", "240"},
	} {
		value := "yes"
		if c.row == "" {
			value = "no"
		}
		runQueries(t, []queryCase{{c.set, "", "no,yes", c.reqs, value, c.row, trust.OK}})
	}
}

// The answer is the error that P7 names first: every row has errors of the rows
// below it, too.
func TestQueryOrder(t *testing.T) {
	long, some, yes := strings.Repeat(",", 101), cond("true -> some"), "no,yes"
	bad, many := "by A\nto B |", strings.Repeat(to("0-of(B)")+cond("1 -> x"), 9)
	for _, c := range []queryCase{
		{set: strings.Repeat("x", 601), attrs: "=", reqs: ",", errno: trust.ErrLong},
		{set: bad, attrs: long, reqs: ",", errno: trust.ErrLong},
		{set: bad, attrs: "=", values: long[:61], reqs: ",", errno: trust.ErrLong},
		{set: bad, attrs: "=", reqs: long[:61], errno: trust.ErrLong},
		{set: plain, values: yes, reqs: strings.Repeat("A", 61), errno: trust.ErrLong},
		{set: some, attrs: long, values: yes, errno: trust.ErrLong},
		{set: many + bad, attrs: "=", reqs: ",", errno: trust.ErrSyntax},
		{set: many, attrs: "=", reqs: ",", errno: trust.ErrMany},
		{set: to("0-of(B)") + cond("1 -> x"), attrs: "=", reqs: ",", errno: trust.ErrCount},
		{set: cond("1 -> x"), attrs: "=", reqs: ",", errno: trust.ErrType},
		{set: some, attrs: "=", values: yes, reqs: "A", errno: trust.ErrList},
		{set: some, values: "no", reqs: "A", errno: trust.ErrList},
		{set: some, values: yes, reqs: "POLICY", errno: trust.ErrList},
		{set: some, values: yes, reqs: "A,B,C,D,E", errno: trust.ErrList},
		{set: some, values: yes, reqs: "A", errno: trust.ErrValue},
		{set: said("POLICY", "A", "true") + some, values: yes, reqs: "A", errno: trust.ErrValue},
		{set: "", values: yes, reqs: "A", value: "no"},
	} {
		runQueries(t, []queryCase{c})
	}
	for _, set := range append(deepSets(), "x", strings.Repeat(plain, 9), strings.Repeat("\xff", 600)) {
		if errno, _ := trust.Check(set); errno != trust.OK {
			runQueries(t, []queryCase{{set, "", yes, "A", "", "", errno}})
		}
	}
	full := said("POLICY", "A", strings.Repeat(" ", 600-len(said("POLICY", "A", "true")))+"true")
	runQueries(t, []queryCase{{full, "", yes, "A", "yes", "0", trust.OK}, {full + "\n", "", yes, "A", "", "", trust.ErrLong}})
}
