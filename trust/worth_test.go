package trust_test

import (
	"strings"
	"testing"

	"trustquery/trust"
)

type worthCase struct{ expr, worth string }

func runWorths(t *testing.T, attrs string, cases []worthCase) {
	t.Helper()
	for _, c := range cases {
		if worth, errno := trust.Worth(c.expr, attrs); worth != c.worth || errno != trust.OK {
			t.Errorf("Worth(%.90q, %q) = %.90q, %d, want %.90q, OK", c.expr, attrs, worth, errno, c.worth)
		}
	}
}

func runWorthFaults(t *testing.T, attrs string, errno trust.Errno, exprs []string) {
	t.Helper()
	for _, expr := range exprs {
		if worth, got := trust.Worth(expr, attrs); worth != "" || got != errno {
			t.Errorf("Worth(%.90q, %.90q) = %.90q, %d, want \"\", %d", expr, attrs, worth, got, errno)
		}
	}
}

func TestWorthExamples(t *testing.T) {
	runWorths(t, "a=4;b=x;n=-7", []worthCase{
		{"@a + 1", "5"}, {"a . b", "\"4x\""}, {"gone", "\"\""}, {"@b", "error"},
		{"@n / 2", "-3"}, {"@n % 2", "-1"}, {"999999999 + 1 - 1", "error"},
		{"false && 1 / 0 == 1", "false"}, {"1 / 0 == 1 || true", "error"},
		{"\"10\" < \"9\"", "true"}, {"10 < 9", "false"}, {"10 - 3 - 2", "5"}, {"- -1", "1"},
	})
	runWorthFaults(t, "a=4;b=x;n=-7", trust.ErrType, []string{"a + 1"})
	runWorthFaults(t, "a=4;b=x;n=-7", trust.ErrSyntax, []string{"1 -> yes"})
	runWorthFaults(t, "a=1;a=2", trust.ErrList, []string{"a"})
}

func TestNumbers(t *testing.T) {
	runWorths(t, "", []worthCase{
		{"0", "0"}, {"-0", "0"}, {"0 * -1", "0"}, {"999999999", "999999999"}, {"-999999999", "-999999999"},
		{"999999998 + 1", "999999999"}, {"999999999 + 1", "error"}, {"999999999 - -1", "error"},
		{"-999999998 - 1", "-999999999"}, {"-999999999 - 1", "error"}, {"-999999999 + -1", "error"},
		{"31622 * -31622", "-999950884"}, {"31623 * 31623", "error"}, {"31623 * -31623", "error"},
		{"999999999 * 999999999", "error"}, {"999999999 * -999999999", "error"}, {"999999999 * 0", "0"},
		{"999999999 * 999999999 * 0", "error"}, {"999999999 * 10 / 10", "error"}, {"999999999 / 10 * 10", "999999990"},
		{"7 / 2", "3"}, {"-7 / 2", "-3"}, {"7 / -2", "-3"}, {"-7 / -2", "3"}, {"1 / 2", "0"}, {"-1 / 2", "0"},
		{"7 % 2", "1"}, {"-7 % 2", "-1"}, {"7 % -2", "1"}, {"-7 % -2", "-1"}, {"-6 % 2", "0"}, {"3 % 7", "3"}, {"-3 % 7", "-3"},
		{"1 / 0", "error"}, {"0 / 0", "error"}, {"1 % 0", "error"}, {"0 % 0", "error"}, {"1 / (1 - 1)", "error"},
		{"0 / 7", "0"}, {"0 % 7", "0"}, {"0 / -7", "0"}, {"-999999999 / -1", "999999999"}, {"-999999999 % -1", "0"},
		{"2 + 3 * 4", "14"}, {"(2 + 3) * 4", "20"}, {"2 - 3 + 4", "3"}, {"2 - (3 + 4)", "-5"},
		{"100 / 10 / 5", "2"}, {"100 / (10 / 5)", "50"}, {"7 % 4 * 2", "6"}, {"7 * 4 % 5", "3"}, {"- 2 * 3", "-6"}, {"2--2", "4"},
	})
}

func TestAttributeNumbers(t *testing.T) {
	for _, c := range []struct{ value, worth string }{
		{"0", "0"}, {"7", "7"}, {"-7", "-7"}, {"999999999", "999999999"}, {"-999999999", "-999999999"}, {"10", "10"}, {"-10", "-10"},
		{"", "error"}, {"-", "error"}, {"-0", "error"}, {"00", "error"}, {"07", "error"}, {"-07", "error"}, {"-00", "error"},
		{"1000000000", "error"}, {"-1000000000", "error"}, {"+7", "error"}, {"--7", "error"}, {"7-", "error"},
		{" 7", "error"}, {"7 ", "error"}, {"- 7", "error"}, {"7\n", "error"}, {"7a", "error"}, {"x", "error"}, {"1.5", "error"}, {"1=1", "error"},
		{"99999999999999999999", "error"}, {"18446744073709551617", "error"},
	} {
		runWorths(t, "b=1;n="+c.value+";c=2", []worthCase{{"@n", c.worth}, {"n", "\"" + c.value + "\""}})
	}
	runWorths(t, "", []worthCase{{"@n", "error"}, {"n", "\"\""}})
	runWorths(t, "N=1;nn=2;true=3", []worthCase{{"@n", "error"}, {"n", "\"\""}, {"@N", "1"}, {"@nn", "2"}, {"@true", "3"}, {"true", "true"}})
}

func TestStrings(t *testing.T) {
	runWorths(t, "a=x;b=y;hi=\xff;line=\n;e=;P=a b", []worthCase{
		{"\"\"", "\"\""}, {"\" \"", "\" \""}, {"\"123456789012\"", "\"123456789012\""}, {"\"\xff\x00\"", "\"\xff\x00\""}, {"\"error\"", "\"error\""},
		{"a . b . a", "\"xyx\""}, {"a . (b . a)", "\"xyx\""}, {"e . e", "\"\""}, {"gone . a", "\"x\""}, {"P", "\"a b\""}, {"line", "\"\n\""},
		{"\"123456789012\" . \"123456789012\"", "\"123456789012123456789012\""},
		{"a == \"x\"", "true"}, {"a != \"x\"", "false"}, {"a == b", "false"}, {"a != b", "true"}, {"gone == \"\"", "true"}, {"gone == e", "true"},
		{"a < b", "true"}, {"b < a", "false"}, {"a < a", "false"}, {"a <= a", "true"}, {"a <= b", "true"}, {"b <= a", "false"},
		{"a > b", "false"}, {"b > a", "true"}, {"a > a", "false"}, {"a >= a", "true"}, {"a >= b", "false"}, {"b >= a", "true"},
		{"\"\" < \"\x00\"", "true"}, {"\"a\" < \"aa\"", "true"}, {"\"ab\" < \"aa\"", "false"}, {"\"Z\" < \"a\"", "true"}, {"\"9\" < \"10\"", "false"},
		{"hi > \"z\"", "true"}, {"\"\xc3\" < \"\xff\"", "true"}, {"\"a\" == \"A\"", "false"}, {"line < \" \"", "true"},
		{"a . b == \"xy\"", "true"}, {"a . \"\" == a", "true"},
	})
}

func TestComparedNumbers(t *testing.T) {
	runWorths(t, "", []worthCase{
		{"1 == 1", "true"}, {"1 == 2", "false"}, {"1 != 1", "false"}, {"1 != 2", "true"}, {"-0 == 0", "true"},
		{"1 < 2", "true"}, {"2 < 1", "false"}, {"1 < 1", "false"}, {"1 <= 1", "true"}, {"1 <= 2", "true"}, {"2 <= 1", "false"},
		{"1 > 2", "false"}, {"2 > 1", "true"}, {"1 > 1", "false"}, {"1 >= 1", "true"}, {"1 >= 2", "false"}, {"2 >= 1", "true"},
		{"-1 < 0", "true"}, {"-2 < -1", "true"}, {"-1 >= 1", "false"}, {"9 < 10", "true"},
	})
}

func TestTruth(t *testing.T) {
	const wrong = "1 / 0 == 1"
	runWorths(t, "", []worthCase{
		{"true", "true"}, {"false", "false"}, {"!true", "false"}, {"!false", "true"}, {"!!true", "true"},
		{"true && true", "true"}, {"true && false", "false"}, {"false && true", "false"}, {"false && false", "false"},
		{"true || true", "true"}, {"true || false", "true"}, {"false || true", "true"}, {"false || false", "false"},
		{"true || true && false", "true"}, {"(true || true) && false", "false"}, {"false && true || true", "true"},
		{"!1 == 1", "false"}, {"!false && false", "false"}, {"!(false && false)", "true"},
		{"false && " + wrong, "false"}, {"true && " + wrong, "error"}, {wrong + " && false", "error"}, {wrong + " && true", "error"},
		{"true || " + wrong, "true"}, {"false || " + wrong, "error"}, {wrong + " || true", "error"}, {wrong + " || false", "error"},
		{"!(" + wrong + ")", "error"}, {"false && " + wrong + " || true", "true"}, {"true || (" + wrong + ") && false", "true"},
		{"false && (true && " + wrong + ")", "false"}, {"!(false && " + wrong + ")", "true"}, {"(true || " + wrong + ") && false", "false"},
	})
}

func TestErrorsGoUp(t *testing.T) {
	exprs := []string{"-(1/0)", "-@gone", "!(@gone == 0)"}
	for _, sign := range []string{"+", "-", "*", "/", "%", "==", "!=", "<", "<=", ">", ">="} {
		exprs = append(exprs, "1 / 0 "+sign+" 1", "0 "+sign+" @gone", "@gone "+sign+" 1 / 0", "0 "+sign+" (999999999 + 1)")
	}
	for _, expr := range exprs {
		runWorths(t, "", []worthCase{{expr, "error"}})
	}
}

func TestExpressionText(t *testing.T) {
	runWorths(t, "a=1", []worthCase{
		{"   1   ", "1"}, {"  ( ( a ) )  ", "\"1\""}, {"truex", "\"\""}, {"True", "\"\""}, {"if", "\"\""},
		{strings.Repeat(" ", 599) + "1", "1"}, {"1" + strings.Repeat(" ", 599), "1"},
	})
	runWorthFaults(t, "a=1", trust.ErrSyntax, []string{
		"", " ", "\n", "1\n", "\n1", "\t1", "1\t", "1 2", "a b", "(1", "1)", "()", "1 +", "+ 1", "a = a", "1 < 2 < 3", "1 == true == 1",
		"true;true", "true -> yes", "true ->", "1 -", "->", "{true}", "@", "@ a", "@1", "01", "1234567890", "abcdefghi", "@abcdefghi",
		"\"", "\"a", "\"1234567890123\"", "\"a\nb\"", "! 1 + !true", "1 & 2", "true | true", "a,b", "1-of(a)", "by A\nto B\nif true\n",
		strings.Repeat(" ", 600), strings.Repeat("(", 600), strings.Repeat("9", 600),
	})
	runWorthFaults(t, "a=1", trust.ErrType, []string{
		"a + 1", "1 . a", "-a", "-true", "!a", "!1", "true == true", "1 == a", "a < 1", "true && 1", "a || true", "1 . 5",
		"true || 1 + a == 1", "false && !1", "(a . a) * 2",
	})
}

// The answer is the error that P5 names first.
func TestWorthOrder(t *testing.T) {
	long, full := strings.Repeat("(", 601), strings.Repeat("=", 101)
	runWorthFaults(t, "", trust.ErrLong, []string{long, strings.Repeat(" ", 600) + "1", strings.Repeat("1 + a", 121)})
	runWorthFaults(t, "=", trust.ErrLong, []string{long})
	runWorthFaults(t, full, trust.ErrLong, []string{long, "1 +", "a + 1", "1"})
	runWorthFaults(t, "=", trust.ErrSyntax, []string{"1 +", "a + 1 +", strings.Repeat("(", 600)})
	runWorthFaults(t, "=", trust.ErrType, []string{"a + 1", "!1"})
	runWorthFaults(t, "=", trust.ErrList, []string{"1", "a", "1 / 0"})
}

func TestLongWorths(t *testing.T) {
	runWorths(t, "a=12345678901234567890", []worthCase{
		{strings.Repeat("-", 599) + "1", "-1"},
		{strings.Repeat("!", 596) + "true", "true"},
		{strings.Repeat("(", 299) + "12" + strings.Repeat(")", 299), "12"},
		{"a" + strings.Repeat(".a", 299), "\"" + strings.Repeat("12345678901234567890", 300) + "\""},
		{"1" + strings.Repeat("+1", 299), "300"},
		{"1" + strings.Repeat("-(1", 149) + strings.Repeat(")", 149), "0"},
		{"true" + strings.Repeat("&&true", 99), "true"},
	})
}
