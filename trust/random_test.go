package trust_test

import (
	"math/rand"
	"strings"
	"testing"

	"trustquery/trust"
)

// A term is an expression made at random. It is written with as many brackets
// as it needs, and some that it does not; how Print must show it and where its
// first wrong operand is follow from the term, not from the text.
type term struct {
	sign  string // "" for a leaf
	leaf  string
	kind  byte // of a leaf: 'b', 'n', 's'
	level int  // how tight it binds
	kids  []*term
	place int
}

type maker struct {
	random *rand.Rand
	out    strings.Builder
	slips  int // one in so many operands gets the wrong type
}

func (m *maker) pick(list ...string) string { return list[m.random.Intn(len(list))] }

func (m *maker) term(kind byte, depth int) *term {
	if m.random.Intn(m.slips) == 0 {
		kind = "bns"[m.random.Intn(3)]
	}
	if depth == 0 || m.random.Intn(5) == 0 {
		return m.leaf(kind)
	}
	switch kind {
	case 'b':
		return m.boolTerm(depth)
	case 's':
		return m.pair(".", 4, 's', depth)
	}
	switch m.random.Intn(5) {
	case 0:
		return &term{sign: "-", level: 6, kids: []*term{m.term('n', depth-1)}}
	case 1, 2:
		return m.pair(m.pick("+", "-"), 4, 'n', depth)
	}
	return m.pair(m.pick("*", "/", "%"), 5, 'n', depth)
}

func (m *maker) boolTerm(depth int) *term {
	switch m.random.Intn(5) {
	case 0:
		return &term{sign: "!", level: 2, kids: []*term{m.term('b', depth-1)}}
	case 1:
		return m.pair("||", 0, 'b', depth)
	case 2:
		return m.pair("&&", 1, 'b', depth)
	}
	kind := "ns"[m.random.Intn(2)]
	return m.pair(m.pick("==", "!=", "<", "<=", ">", ">="), 2, kind, depth)
}

func (m *maker) pair(sign string, level int, kind byte, depth int) *term {
	left := m.term(kind, depth-1)
	return &term{sign: sign, level: level, kids: []*term{left, m.term(kind, depth-1)}}
}

func (m *maker) leaf(kind byte) *term {
	text := ""
	switch kind {
	case 'b':
		text = m.pick("true", "false")
	case 'n':
		text = m.pick("0", "1", "7", "31623", "999999999", "@n", "@true")
	default:
		text = m.pick("a", "truth", "\"\"", "\"a b\"", "\"->\"")
	}
	return &term{leaf: text, kind: kind, level: 7}
}

func (m *maker) token(text string) int {
	place := m.out.Len()
	m.out.WriteString(text)
	if m.random.Intn(3) == 0 {
		m.out.WriteString(strings.Repeat(" ", 1+m.random.Intn(2)))
	}
	return place
}

// write lays the term where only one of at least this level may stand.
func (m *maker) write(x *term, level int) {
	if x.level < level || m.random.Intn(8) == 0 {
		m.token("(")
		m.write(x, 0)
		m.token(")")
		return
	}
	switch len(x.kids) {
	case 0:
		m.token(x.leaf)
	case 1:
		x.place = m.token(x.sign)
		m.write(x.kids[0], x.level)
	default:
		left, right := x.level, x.level+1
		if x.level == 2 {
			left, right = 4, 4
		}
		m.write(x.kids[0], left)
		x.place = m.token(x.sign)
		m.write(x.kids[1], right)
	}
}

func (x *term) printed() string {
	switch len(x.kids) {
	case 0:
		return x.leaf
	case 1:
		return x.sign + x.kids[0].printed()
	}
	return "(" + x.kids[0].printed() + " " + x.sign + " " + x.kids[1].printed() + ")"
}

// check answers the term's type, or 0 and the place of the first wrong one.
func (x *term) check() (byte, int) {
	if len(x.kids) == 0 {
		return x.kind, 0
	}
	kinds := ""
	for _, kid := range x.kids {
		kind, place := kid.check()
		if kind == 0 {
			return 0, place
		}
		kinds += string(rune(kind))
	}
	for _, row := range []struct {
		signs, kinds string
		made         byte
	}{
		{" ! ", "b", 'b'}, {" - ", "n", 'n'},
		{" || && ", "bb", 'b'}, {" . ", "ss", 's'}, {" + - * / % ", "nn", 'n'},
		{" == != < <= > >= ", "nn", 'b'}, {" == != < <= > >= ", "ss", 'b'},
	} {
		if strings.Contains(row.signs, " "+x.sign+" ") && row.kinds == kinds {
			return row.made, 0
		}
	}
	return 0, x.place
}

// A madeClause is a clause as it was written.
type madeClause struct {
	test   *term
	start  int
	result string
	inner  []madeClause
}

func (m *maker) clauses(depth int) []madeClause {
	list := []madeClause{}
	for n := 1 + m.random.Intn(2); n > 0; n-- {
		c := madeClause{test: m.term('b', 1+m.random.Intn(3)), start: m.out.Len()}
		m.write(c.test, 0)
		switch result := m.random.Intn(3); {
		case result == 0:
			c.result = m.pick("no", "maybe", "yes")
			m.token("->")
			m.token(c.result)
		case result == 1 && depth > 0:
			m.token("->")
			m.token("{")
			c.inner = m.clauses(depth - 1)
			m.token("}")
		}
		list = append(list, c)
		if n > 1 {
			m.token(";")
		}
	}
	return list
}

func printedClauses(list []madeClause) string {
	texts := []string{}
	for _, c := range list {
		text := c.test.printed()
		if c.result != "" {
			text += " -> " + c.result
		}
		if c.inner != nil {
			text += " -> {" + printedClauses(c.inner) + "}"
		}
		texts = append(texts, text)
	}
	return strings.Join(texts, "; ")
}

// clausesFault answers the place of the first wrong type, or 0.
func clausesFault(list []madeClause) int {
	for _, c := range list {
		kind, place := c.test.check()
		if kind == 0 {
			return place
		}
		if kind != 'b' {
			return c.start
		}
		if place = clausesFault(c.inner); place > 0 {
			return place
		}
	}
	return 0
}

func TestRandomConds(t *testing.T) {
	m := maker{random: rand.New(rand.NewSource(3))}
	right, wrong := 0, 0
	for i := 0; i < 20000; i++ {
		m.slips = 10 + 1000*(i%2)
		m.out.Reset()
		m.out.WriteString("by A\nto B\nif ")
		made := m.clauses(2)
		m.out.WriteString("\n")
		printed, place := printedClauses(made), clausesFault(made)
		set := m.out.String()
		if len(set) > 600 {
			continue
		}
		errno := trust.OK
		printed = cond(printed)
		if place > 0 {
			wrong++
			errno, printed = trust.ErrType, ""
		} else {
			right++
		}
		runChecks(t, []checkCase{{set, errno, place}})
		if got, e := trust.Print(set); got != printed || e != errno {
			t.Fatalf("Print(%q) = %q, %d, want %q, %d", set, got, e, printed, errno)
		}
		if len(printed) > 600 || printed == "" {
			continue
		}
		if again, e := trust.Print(printed); again != printed || e != trust.OK {
			t.Fatalf("Print(%q) = %q, %d", printed, again, e)
		}
	}
	if right < 1000 || wrong < 1000 {
		t.Errorf("only %d right and %d wrong sets", right, wrong)
	}
}
