package trust_test

import (
	"math"
	"math/rand"
	"strings"
	"testing"

	"trustquery/trust"
)

// deepConds are nestings and rows about as long as a set may be, right and wrong.
func deepConds() []string {
	conds := []string{}
	for _, c := range []struct{ open, middle, close string }{
		{"!", "true", ""}, {"!", "", ""},
		{"-", "1", ""}, {"-", "1", "<1"}, {"- ", "", ""},
		{"(", "true", ")"}, {"(", "true", ""}, {"(", "", ""}, {"(", "1", "+1)"},
		{"1==1->{", "true", "}"}, {"1->{", "1", "}"}, {"1->{", "", ""},
		{"1+", "1", ""}, {"1*-", "1", ""}, {"true&&", "true", ""}, {"true||!", "true", ""}, {"true;", "true", ""},
		{"a.", "a", ""}, {"a.", "a", " "}, {"a.(", "a", ")"}, {"9*", "9", ""}, {"1/", "0", ""}, {"@a%", "@a", ""},
	} {
		n := (580 - len(c.middle)) / (len(c.open) + len(c.close))
		conds = append(conds, strings.Repeat(c.open, n)+c.middle+strings.Repeat(c.close, n))
	}
	return conds
}

func deepSets() []string {
	sets := []string{}
	for _, conds := range deepConds() {
		sets = append(sets, cond(conds))
	}
	for _, c := range []struct{ open, close string }{
		{"(", ")"}, {"(", ""}, {"1-of(", ")"}, {"1-of(", ""}, {"9-of(A,", ")"}, {"A&&", ""}, {"A||(", ")"},
	} {
		n := 570 / (len(c.open) + len(c.close))
		sets = append(sets, to(strings.Repeat(c.open, n)+"A"+strings.Repeat(c.close, n)))
	}
	return sets
}

func callAll(text string, k int, other string) {
	trust.Check(text)
	trust.Print(text)
	trust.Worth(text, other)
	trust.Worth(text, "a=12345678901234567890")
	trust.Cond(text, k, other, other)
	trust.Cond(text, k, "a=-1", "no,yes")
	trust.Cond(text, k, other, "no,yes")
	trust.Cond(text, k, "", other)
	for _, lists := range [][3]string{{other, other, other}, {"a=-1", "no,yes", "A"}, {other, "no,yes", "B"}, {"", other, "B"}, {"", "no,yes", other}} {
		trust.Query(text, lists[0], lists[1], lists[2])
		trust.Chain(text, lists[0], lists[1], lists[2])
	}
}

// P1: a panic or a call without end fails the test.
func TestEveryCallEnds(t *testing.T) {
	random := rand.New(rand.NewSource(1))
	texts := append(deepSets(), deepConds()...)
	texts = append(texts, "", "\x00", "\n", "by ", "by A\nto 9", "by A\nto B\nif \"", "\xff\xfe", strings.Repeat("(", 600), strings.Repeat("b", 5000000))
	for i := 0; i < 2000; i++ {
		raw := make([]byte, random.Intn(40))
		for j := range raw {
			raw[j] = byte(random.Intn(256))
		}
		texts = append(texts, string(raw), to(string(raw)), cond(string(raw)), "a="+string(raw))
	}
	for _, text := range texts {
		for _, k := range []int{0, 8, -1, math.MinInt, math.MaxInt} {
			callAll(text, k, "")
		}
		callAll(plain, 0, text)
	}
}

func TestDeepSetsAreRead(t *testing.T) {
	runChecks(t, []checkCase{
		{cond(strings.Repeat("!", 582) + "true"), trust.OK, 0},
		{cond(strings.Repeat("-", 580) + "1 == 1"), trust.OK, 0},
		{cond(strings.Repeat("(", 290) + "true" + strings.Repeat(")", 290)), trust.OK, 0},
		{cond(strings.Repeat("(", 290) + "1" + strings.Repeat(")", 290)), trust.ErrType, 13},
		{cond(strings.Repeat("true->{", 72) + "1" + strings.Repeat("}", 72)), trust.ErrType, 13 + 72*7},
		{to(strings.Repeat("1-of(", 90) + "2-of(B)" + strings.Repeat(")", 90)), trust.ErrCount, 8 + 90*5},
	})
}

// P2: neither the calls ahead of it nor their order change an answer.
func TestNothingIsKept(t *testing.T) {
	texts := append(deepSets(), deepConds()...)
	texts = append(texts, "", plain, "x", to("0-of(B)"), cond("1"), strings.Repeat(plain, 9), strings.Repeat(plain, 8), cond("a.b==c->{true->no}"))
	texts = append(texts, "@a", "a", "1/0", "a.b", cond("@a==1->no"), cond("a==b"))
	texts = append(texts, said("POLICY", "A", "true")+plain, said("POLICY", "1-of(A, B)", "@a == 1")+cond("true -> no"))
	lists := [][3]string{{"", "no,yes", "A"}, {"a=1", "yes,no", "B"}, {"a=x;b=x", "no,yes", ""}, {"a=1", "no,yes", "A,B"}, {"=", ",", ","}}
	type answer struct {
		checked, worth, cond, query, chain  trust.Errno
		place                               int
		printed, text, value, standing, row string
	}
	ask := func(i int) answer {
		text, list := texts[i/len(lists)], lists[i%len(lists)]
		a := answer{}
		a.checked, a.place = trust.Check(text)
		printed, again := trust.Print(text)
		if again != a.checked {
			t.Errorf("Print(%.90q) = %d, Check %d", text, again, a.checked)
		}
		a.printed = printed
		a.text, a.worth = trust.Worth(text, list[0])
		a.value, a.cond = trust.Cond(text, 0, list[0], list[1])
		a.standing, a.query = trust.Query(text, list[0], list[1], list[2])
		a.row, a.chain = trust.Chain(text, list[0], list[1], list[2])
		return a
	}
	first := []answer{}
	for i := 0; i < len(texts)*len(lists); i++ {
		first = append(first, ask(i))
	}
	for i := len(first) - 1; i >= 0; i-- {
		if now := ask(i); now != first[i] {
			t.Errorf("%.90q: at first %v, then %v", texts[i/len(lists)], first[i], now)
		}
	}
}
