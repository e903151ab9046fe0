package trust_test

import (
	"math/big"
	"math/rand"
	"strconv"
	"strings"
	"testing"

	"trustquery/trust"
)

// worth works the term out as DOC.md words it: from the left, no further than
// to the first error, and not at all what does not count. It answers a bool, a
// string, a number, or nil for an error.
func (x *term) worth(attrs map[string]string) any {
	if len(x.kids) == 0 {
		return x.leafWorth(attrs)
	}
	left := x.kids[0].worth(attrs)
	if left == nil || x.sign == "&&" && left == false || x.sign == "||" && left == true {
		return left
	}
	if len(x.kids) == 1 {
		if truth, isBool := left.(bool); isBool {
			return !truth
		}
		return nineDigits(new(big.Int).Neg(left.(*big.Int)))
	}
	right := x.kids[1].worth(attrs)
	if right == nil || x.sign == "&&" || x.sign == "||" {
		return right
	}
	if text, isText := left.(string); isText {
		if x.sign == "." {
			return text + right.(string)
		}
		return holds(x.sign, strings.Compare(text, right.(string)))
	}
	return numbersWorth(x.sign, left.(*big.Int), right.(*big.Int))
}

func (x *term) leafWorth(attrs map[string]string) any {
	switch {
	case x.kind == 'b':
		return x.leaf == "true"
	case strings.HasPrefix(x.leaf, "\""):
		return strings.Trim(x.leaf, "\"")
	case x.kind == 's':
		return attrs[x.leaf]
	}
	text := x.leaf
	if strings.HasPrefix(text, "@") {
		text = attrs[text[1:]]
	}
	number, err := strconv.Atoi(text)
	if err != nil || strconv.Itoa(number) != text {
		return nil
	}
	return nineDigits(big.NewInt(int64(number)))
}

func nineDigits(number *big.Int) any {
	if len(new(big.Int).Abs(number).String()) > 9 {
		return nil
	}
	return number
}

func numbersWorth(sign string, left *big.Int, right *big.Int) any {
	if (sign == "/" || sign == "%") && right.Sign() == 0 {
		return nil
	}
	switch sign {
	case "+":
		return nineDigits(new(big.Int).Add(left, right))
	case "-":
		return nineDigits(new(big.Int).Sub(left, right))
	case "*":
		return nineDigits(new(big.Int).Mul(left, right))
	case "/":
		return nineDigits(new(big.Int).Quo(left, right))
	case "%":
		return nineDigits(new(big.Int).Rem(left, right))
	}
	return holds(sign, left.Cmp(right))
}

func holds(sign string, order int) bool {
	fitting := map[string][]int{"==": {0}, "!=": {-1, 1}, "<": {-1}, "<=": {-1, 0}, ">": {1}, ">=": {0, 1}}
	for _, one := range fitting[sign] {
		if one == order {
			return true
		}
	}
	return false
}

func shown(worth any) string {
	switch w := worth.(type) {
	case bool:
		return strconv.FormatBool(w)
	case string:
		return "\"" + w + "\""
	case *big.Int:
		return w.String()
	}
	return "error"
}

// clausesLevel is 0 for no, 1 for maybe, 2 for yes.
func clausesLevel(list []madeClause, attrs map[string]string) int {
	level := 0
	for _, c := range list {
		if c.test.worth(attrs) != true {
			continue
		}
		own := 2
		if c.result != "" {
			own = map[string]int{"no": 0, "maybe": 1, "yes": 2}[c.result]
		}
		if c.inner != nil {
			own = clausesLevel(c.inner, attrs)
		}
		level = max(level, own)
	}
	return level
}

var someAttrs = []string{"", "a=x;n=-7;true=3", "true=0;n=999999999;truth=a b;a=a", "n=07;true=-0", "a=->;truth=->;n=1", "n=-999999999;true=-1;a="}

func TestRandomWorths(t *testing.T) {
	m := maker{random: rand.New(rand.NewSource(4)), slips: 1 << 30}
	seen := map[string]int{}
	for i := 0; i < 60000; i++ {
		x := m.term("bns"[i%3], m.random.Intn(5))
		m.out.Reset()
		m.write(x, 0)
		text := m.out.String()
		if len(text) > 600 {
			continue
		}
		attrs := m.pick(someAttrs...)
		found, _ := attrsOf(attrs)
		want := shown(x.worth(found))
		runWorths(t, attrs, []worthCase{{text, want}})
		seen[want]++
	}
	if seen["true"] < 1000 || seen["false"] < 1000 || seen["error"] < 1000 || len(seen) < 1000 {
		t.Errorf("only %d true, %d false, %d errors, %d in all", seen["true"], seen["false"], seen["error"], len(seen))
	}
}

func TestRandomCondWorths(t *testing.T) {
	m := maker{random: rand.New(rand.NewSource(5)), slips: 1 << 30}
	seen := map[string]int{}
	for i := 0; i < 40000; i++ {
		m.out.Reset()
		before := m.random.Intn(3)
		m.out.WriteString(strings.Repeat(plain, before) + "by A\nto B\nif ")
		made := m.clauses(3)
		m.out.WriteString("\n")
		set := m.out.String()
		if len(set) > 600 {
			continue
		}
		attrs := m.pick(someAttrs...)
		found, _ := attrsOf(attrs)
		want := []string{"no", "maybe", "yes"}[clausesLevel(made, found)]
		if worth, errno := trust.Cond(set, before, attrs, "no,maybe,yes"); worth != want || errno != trust.OK {
			t.Fatalf("Cond(%q, %d, %q) = %q, %d, want %q", set, before, attrs, worth, errno, want)
		}
		seen[want]++
	}
	if seen["no"] < 1000 || seen["maybe"] < 1000 || seen["yes"] < 1000 {
		t.Errorf("only %v", seen)
	}
}
