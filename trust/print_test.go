package trust_test

import (
	"strings"
	"testing"

	"trustquery/trust"
)

func TestPrint(t *testing.T) {
	for _, c := range []struct{ set, printed string }{
		{"", ""},
		{plain, plain},
		{strings.Repeat("by  A \nto  B \nif  true \n", 8), strings.Repeat(plain, 8)},
		{
			"by  A \nto  (B)||C&&2-of( D,(E) ) \nif  a==\"x\"&&!(@n+1>2*3-4)->yes;true->{false}\n",
			"by A\nto (B || (C && 2-of(D, E)))\nif ((a == \"x\") && !((@n + 1) > ((2 * 3) - 4))) -> yes; true -> {false}\n",
		},
		{to("A||B||C"), to("((A || B) || C)")},
		{to("A&&B&&C"), to("((A && B) && C)")},
		{to("A&&(B&&C)"), to("(A && (B && C))")},
		{to("A||(B||C)"), to("(A || (B || C))")},
		{to("(A&&B)||C&&D"), to("((A && B) || (C && D))")},
		{to("((A))"), to("A")},
		{to("1-of((A||B),2-of(C,D),E)"), to("1-of((A || B), 2-of(C, D), E)")},
		{cond("10-3-2==5"), cond("(((10 - 3) - 2) == 5)")},
		{cond("10-(3-2)==9"), cond("((10 - (3 - 2)) == 9)")},
		{cond("8/4*2%3+1-1==0"), cond("((((((8 / 4) * 2) % 3) + 1) - 1) == 0)")},
		{cond("a.\"  \".b!=\"\""), cond("(((a . \"  \") . b) != \"\")")},
		{cond("- - 1<-@n"), cond("(--1 < -@n)")},
		{cond("1--1>=-(1-2)"), cond("((1 - -1) >= -(1 - 2))")},
		{cond("! ! a<=b&&true"), cond("(!!(a <= b) && true)")},
		{cond("true||true&&false"), cond("(true || (true && false))")},
		{cond("(true||true)&&false"), cond("((true || true) && false)")},
		{cond("true->{true->no;false};false->{true->{true->yes}}"), cond("true -> {true -> no; false}; false -> {true -> {true -> yes}}")},
		{cond("\"\xff\x00\"==a"), cond("(\"\xff\x00\" == a)")},
	} {
		if printed, errno := trust.Print(c.set); printed != c.printed || errno != trust.OK {
			t.Errorf("Print(%q) = %q, %d, want %q, OK", c.set, printed, errno, c.printed)
		}
	}
}

func TestPrintLong(t *testing.T) {
	set := cond("true" + strings.Repeat("&&true", 97))
	want := cond(strings.Repeat("(", 97) + "true" + strings.Repeat(" && true)", 97))
	if printed, errno := trust.Print(set); printed != want || errno != trust.OK {
		t.Errorf("Print(%q) = %q, %d, want %q, OK", set, printed, errno, want)
	}
}

func TestPrintErrors(t *testing.T) {
	for _, set := range []string{
		strings.Repeat("x", 601), "x", "by A\n", strings.Repeat(plain, 9), to("0-of(B)"), cond("1"),
	} {
		want, _ := trust.Check(set)
		if printed, errno := trust.Print(set); printed != "" || errno != want || errno == trust.OK {
			t.Errorf("Print(%.90q) = %q, %d, want \"\", %d", set, printed, errno, want)
		}
	}
}
