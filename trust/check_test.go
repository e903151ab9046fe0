package trust_test

import (
	"strings"
	"testing"

	"trustquery/trust"
)

const plain = "by A\nto B\nif true\n"

type checkCase struct {
	set   string
	errno trust.Errno
	place int
}

func runChecks(t *testing.T, cases []checkCase) {
	t.Helper()
	for _, c := range cases {
		if errno, place := trust.Check(c.set); errno != c.errno || place != c.place {
			t.Errorf("Check(%.90q) = %d, %d, want %d, %d", c.set, errno, place, c.errno, c.place)
		}
	}
}

// to and cond lay a text behind the 'to' (at place 8) and the 'if' (at place 13).
func to(lic string) string     { return "by A\nto " + lic + "\nif true\n" }
func cond(conds string) string { return "by A\nto B\nif " + conds + "\n" }

func TestExamples(t *testing.T) {
	runChecks(t, []checkCase{
		{"by A\nto B || 2-of(C, D)\nif @n + 1 > 2 -> yes; a == \"x\"\n", trust.OK, 0},
		{"by A\nto B | C\nif true\n", trust.ErrSyntax, 11},
		{"by A\nto B\nif a < b < c\n", trust.ErrSyntax, 19},
		{"by A\nto 2-of(B)\nif true\n", trust.ErrCount, 8},
		{"by A\nto B\nif true && 1\n", trust.ErrType, 18},
		{"by A\nto B\nif 1 -> {a + 1 == 1}\n", trust.ErrType, 13},
		{"by A\nto B\nif true -> {1 -> yes}; a + 1 == 1\n", trust.ErrType, 22},
		{"by A\nto B\nif 1.5 == a\n", trust.ErrType, 14},
	})
}

func TestErrorNumbers(t *testing.T) {
	for number, errno := range []trust.Errno{
		trust.OK, trust.ErrLong, trust.ErrSyntax, trust.ErrMany, trust.ErrCount, trust.ErrType, trust.ErrList, trust.ErrValue, trust.ErrNone,
	} {
		if int(errno) != number {
			t.Errorf("error %d is %d", number, errno)
		}
	}
}

func TestLength(t *testing.T) {
	full := cond(strings.Repeat(" ", 600-len(plain)) + "true")
	runChecks(t, []checkCase{
		{full, trust.OK, 0},
		{full + "\n", trust.ErrLong, 0},
		{strings.Repeat("\xff", 600), trust.ErrSyntax, 0},
		{strings.Repeat("\xff", 601), trust.ErrLong, 0},
		{strings.Repeat(plain, 40), trust.ErrLong, 0},
	})
}

func TestAsserts(t *testing.T) {
	runChecks(t, []checkCase{
		{"", trust.OK, 0},
		{plain, trust.OK, 0},
		{strings.Repeat(plain, 8), trust.OK, 0},
		{strings.Repeat(plain, 9), trust.ErrMany, 0},
		{strings.Repeat(plain, 33), trust.ErrMany, 0},
		{strings.Repeat(plain, 9) + "b", trust.ErrSyntax, 9*len(plain) + 1},
		{strings.Repeat(plain, 9) + to("0-of(B)"), trust.ErrMany, 0},
		{strings.Repeat(plain, 9) + cond("1"), trust.ErrMany, 0},
		{strings.Repeat(plain, 7) + to("0-of(B)"), trust.ErrCount, 7*len(plain) + 8},
		{strings.Repeat(plain, 7) + cond("1"), trust.ErrType, 7*len(plain) + 13},
	})
}

func TestLines(t *testing.T) {
	runChecks(t, []checkCase{
		{"\n", trust.ErrSyntax, 0},
		{" ", trust.ErrSyntax, 0},
		{"b", trust.ErrSyntax, 1},
		{"by", trust.ErrSyntax, 2},
		{"by\n", trust.ErrSyntax, 2},
		{"by\tA\n", trust.ErrSyntax, 2},
		{"by \tA\n", trust.ErrSyntax, 3},
		{"BY A\n", trust.ErrSyntax, 0},
		{"by A\r\n", trust.ErrSyntax, 4},
		{"by A\n to B\n", trust.ErrSyntax, 5},
		{"by A\nby B\n", trust.ErrSyntax, 5},
		{"by A\nto\n", trust.ErrSyntax, 7},
		{"by A\nto B\nto C\n", trust.ErrSyntax, 10},
		{"by A\nto B\nif\n", trust.ErrSyntax, 12},
		{"by A\nto B\nif(true)\n", trust.ErrSyntax, 12},
		{"by A\nto(B)\nif true\n", trust.ErrSyntax, 7},
		{"by A || B\n", trust.ErrSyntax, 5},
		{"by (A)\n", trust.ErrSyntax, 3},
		{"by abcdefgh\nto azAZ\nif true\n", trust.OK, 0},
		{"by abcdefghi\n", trust.ErrSyntax, 11},
		{"by true\nto false || if\nif true -> true\n", trust.OK, 0},
		{plain + "x", trust.ErrSyntax, 18},
		{plain + " ", trust.ErrSyntax, 18},
		{plain + "by", trust.ErrSyntax, 20},
		{"by   A   \nto   B   \nif   true   \n", trust.OK, 0},
	})
}

func TestLicences(t *testing.T) {
	runChecks(t, []checkCase{
		{to("B&&C||D"), trust.OK, 0},
		{to("( B || ( C ) ) && 9-of( A,A,A,A,A,A,A,A,A )"), trust.OK, 0},
		{to("1-of(B || C, (D))"), trust.OK, 0},
		{to("B C"), trust.ErrSyntax, 10},
		{to("B |"), trust.ErrSyntax, 11},
		{to("B |||C"), trust.ErrSyntax, 12},
		{to("B & & C"), trust.ErrSyntax, 11},
		{to("!B"), trust.ErrSyntax, 8},
		{to("\"B\""), trust.ErrSyntax, 8},
		{to("B, C"), trust.ErrSyntax, 9},
		{to("(B, C)"), trust.ErrSyntax, 10},
		{to("B -> C"), trust.ErrSyntax, 10},
		{to("-of(B)"), trust.ErrSyntax, 8},
		{to("2"), trust.ErrSyntax, 9},
		{to("2->(B)"), trust.ErrSyntax, 10},
		{to("2-Of(B)"), trust.ErrSyntax, 10},
		{to("2-of(B"), trust.ErrSyntax, 14},
		{to("2-of(B;C)"), trust.ErrSyntax, 14},
		{to("2-of(,B)"), trust.ErrSyntax, 13},
		{to("1-of(B) C"), trust.ErrSyntax, 16},
		{to("1-of(B)C"), trust.ErrSyntax, 15},
		{"by A\nto 2-of(B", trust.ErrSyntax, 14},
		{"by A\nto 2-o", trust.ErrSyntax, 11},
	})
}

func TestCounts(t *testing.T) {
	runChecks(t, []checkCase{
		{to("1-of(B)"), trust.OK, 0},
		{to("2-of(B, B)"), trust.OK, 0},
		{to("0-of(B)"), trust.ErrCount, 8},
		{to("0-of(B, C)"), trust.ErrCount, 8},
		{to("3-of(B, C)"), trust.ErrCount, 8},
		{to("2-of(B || C)"), trust.ErrCount, 8},
		{to("2-of((B || C) && D)"), trust.ErrCount, 8},
		{to("2-of(2-of(C, D))"), trust.ErrCount, 8},
		{to("2-of(B, 0-of(C))"), trust.ErrCount, 16},
		{to("B && 2-of(C) || 0-of(D)"), trust.ErrCount, 13},
		{to("3-of(0-of(B), 2-of(C))"), trust.ErrCount, 8},
		{cond("1") + to("0-of(B)"), trust.ErrCount, 15 + 8},
		{to("0-of(B)") + to("B |"), trust.ErrSyntax, len(to("0-of(B)")) + 11},
	})
}

func TestClauses(t *testing.T) {
	runChecks(t, []checkCase{
		{cond("true ; false -> no ; true->{ true ; false->{true} } "), trust.OK, 0},
		{cond(";true"), trust.ErrSyntax, 13},
		{cond("true;;true"), trust.ErrSyntax, 18},
		{cond("true}"), trust.ErrSyntax, 17},
		{cond("{true}"), trust.ErrSyntax, 13},
		{cond("true -> {true}}"), trust.ErrSyntax, 27},
		{cond("true -> {true;}"), trust.ErrSyntax, 27},
		{cond("true -> {true} no"), trust.ErrSyntax, 28},
		{cond("true -> {true} -> no"), trust.ErrSyntax, 28},
		{cond("true -> yes no"), trust.ErrSyntax, 25},
		{cond("true -> (yes)"), trust.ErrSyntax, 21},
		{cond("true -> \"yes\""), trust.ErrSyntax, 21},
		{cond("true -> @yes"), trust.ErrSyntax, 21},
		{cond("true -> abcdefghi"), trust.ErrSyntax, 29},
		{cond("true -> yes && true"), trust.ErrSyntax, 25},
	})
}

func TestArrows(t *testing.T) {
	runChecks(t, []checkCase{
		{cond("1 == 2->yes"), trust.OK, 0},
		{cond("1 - -2 > 3->yes"), trust.OK, 0},
		{cond("(true -> yes)"), trust.ErrSyntax, 19},
		{cond("((a)-> yes)"), trust.ErrSyntax, 17},
		{cond("true && (1 + 2 * 3->yes)"), trust.ErrSyntax, 31},
		{cond("(a == b -> c)"), trust.ErrSyntax, 21},
		{cond("true -"), trust.ErrSyntax, 19},
		{"by A\nto B\nif (true -", trust.ErrSyntax, 20},
		{"by A\nto B\nif (true ->", trust.ErrSyntax, 19},
		{cond("true - -> yes"), trust.ErrSyntax, 21},
		{cond("-> yes"), trust.ErrSyntax, 14},
		{cond("1 +-> yes"), trust.ErrSyntax, 17},
		{cond("1 <-> 2"), trust.ErrSyntax, 17},
	})
}

func TestSigns(t *testing.T) {
	runChecks(t, []checkCase{
		{cond("1!=2&&1<2||1>=2"), trust.OK, 0},
		{cond("1 ! = 2"), trust.ErrSyntax, 16},
		{cond("1 = = 2"), trust.ErrSyntax, 16},
		{cond("1 === 2"), trust.ErrSyntax, 17},
		{cond("1 > = 2"), trust.ErrSyntax, 17},
		{cond("1 >== 2"), trust.ErrSyntax, 17},
		{cond("1 <> 2"), trust.ErrSyntax, 16},
		{cond("1 => 2"), trust.ErrSyntax, 16},
		{cond("1 == 2 != 3"), trust.ErrSyntax, 20},
		{cond("1 >= 2 > 3"), trust.ErrSyntax, 20},
		{cond("!1 == 2 == 3"), trust.ErrSyntax, 21},
		{cond("1 == !true"), trust.ErrSyntax, 18},
		{cond("1 + !true"), trust.ErrSyntax, 17},
		{cond("-!true"), trust.ErrSyntax, 14},
		{cond("!-1 == 1"), trust.OK, 0},
		{cond("!= 1"), trust.ErrSyntax, 14},
		{cond("+1 == 1"), trust.ErrSyntax, 13},
		{cond("1 ++ 1 == 1"), trust.ErrSyntax, 16},
		{cond("1 */ 1 == 1"), trust.ErrSyntax, 16},
		{cond("true | | true"), trust.ErrSyntax, 19},
		{cond("true &&& true"), trust.ErrSyntax, 20},
		{cond("()"), trust.ErrSyntax, 14},
		{cond("(true))"), trust.ErrSyntax, 19},
		{cond("true, true"), trust.ErrSyntax, 17},
	})
}

func TestOperands(t *testing.T) {
	runChecks(t, []checkCase{
		{cond("0 == 999999999"), trust.OK, 0},
		{cond("00 == 0"), trust.ErrSyntax, 14},
		{cond("9999999990 == 0"), trust.ErrSyntax, 22},
		{cond("1 1 == 1"), trust.ErrSyntax, 15},
		{cond("1a == 1"), trust.ErrSyntax, 14},
		{cond("a1 == a"), trust.ErrSyntax, 14},
		{cond("a b == a"), trust.ErrSyntax, 15},
		{cond("abcdefgh == abcdefgh"), trust.OK, 0},
		{cond("@abcdefgh == 1"), trust.OK, 0},
		{cond("@abcdefghi == 1"), trust.ErrSyntax, 22},
		{cond("@@a == 1"), trust.ErrSyntax, 14},
		{cond("@\"a\" == 1"), trust.ErrSyntax, 14},
		{cond("@true == 1"), trust.OK, 0},
		{cond("\"\" == a"), trust.OK, 0},
		{cond("\" ;->{}\x00\xff\t\" == a"), trust.OK, 0},
		{cond("\"123456789012\" == a"), trust.OK, 0},
		{cond("\"1234567890123\" == a"), trust.ErrSyntax, 26},
		{cond("\"a\"\"b\" == a"), trust.ErrSyntax, 16},
		{cond("a\"b\" == a"), trust.ErrSyntax, 14},
		{"by A\nto B\nif \"a", trust.ErrSyntax, 15},
		{"by A\nto B\nif \"123456789012", trust.ErrSyntax, 26},
		{cond("'a' == a"), trust.ErrSyntax, 13},
	})
}

func TestTypes(t *testing.T) {
	runChecks(t, []checkCase{
		{cond("a . \"x\" <= b && @n * 2 % 3 / 4 != -1 || !true"), trust.OK, 0},
		{cond("1 || true"), trust.ErrType, 15},
		{cond("true || a"), trust.ErrType, 18},
		{cond("!1"), trust.ErrType, 13},
		{cond("- true == 1"), trust.ErrType, 13},
		{cond("1 == -\"a\""), trust.ErrType, 18},
		{cond("true != true"), trust.ErrType, 18},
		{cond("1 <= a"), trust.ErrType, 15},
		{cond("a * 1 == 1"), trust.ErrType, 15},
		{cond("1 / a == 1"), trust.ErrType, 15},
		{cond("a % b == 1"), trust.ErrType, 15},
		{cond("a + b == a"), trust.ErrType, 15},
		{cond("a - b == a"), trust.ErrType, 15},
		{cond("1 . 2 == 3"), trust.ErrType, 15},
		{cond("true . a == a"), trust.ErrType, 18},
		{cond("(1 == 1) == (1 == 1)"), trust.ErrType, 22},
		{cond("!(a . b)"), trust.ErrType, 13},
		{cond("1 + 1"), trust.ErrType, 13},
		{cond(" \"a\""), trust.ErrType, 14},
		{cond("(1)"), trust.ErrType, 13},
		{cond("(a + 1) + (b + 1)"), trust.ErrType, 16},
		{cond("true + (b + 1) == 1"), trust.ErrType, 23},
		{cond("!-a"), trust.ErrType, 14},
		{cond("1; a + 1 == 1"), trust.ErrType, 13},
		{cond("true; 1"), trust.ErrType, 19},
		{cond("true; true -> {true -> {a}}; 1"), trust.ErrType, 37},
		{cond("1 -> {a}"), trust.ErrType, 13},
		{cond("a + 1 == 1 -> {1}"), trust.ErrType, 15},
		{plain + cond("1") + cond("a"), trust.ErrType, len(plain) + 13},
	})
}
