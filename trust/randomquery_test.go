package trust_test

import (
	"math/rand"
	"slices"
	"sort"
	"strings"
	"testing"

	"trustquery/trust"
)

// A madeLic is a licence made at random: a name, or count of its kids.
type madeLic struct {
	name  string
	count int
	kids  []*madeLic
}

var people = []string{"POLICY", "A", "B", "C", "D"}

func (m *maker) lic(depth int) *madeLic {
	if depth == 0 || m.random.Intn(3) == 0 {
		return &madeLic{name: m.pick(people...)}
	}
	kids := []*madeLic{}
	for n := 1 + m.random.Intn(4); n > 0; n-- {
		kids = append(kids, m.lic(depth-1))
	}
	return &madeLic{count: 1 + m.random.Intn(len(kids)), kids: kids}
}

// written uses signs in the place of K-of where they say the same.
func (m *maker) written(l *madeLic) string {
	if l.name != "" {
		return l.name
	}
	texts := []string{}
	for _, kid := range l.kids {
		texts = append(texts, m.written(kid))
	}
	sign := m.pick(" && ", " || ", "")
	if sign == " && " && l.count == len(l.kids) || sign == " || " && l.count == 1 {
		return "(" + strings.Join(texts, sign) + ")"
	}
	return string(rune('0'+l.count)) + "-of(" + strings.Join(texts, ", ") + ")"
}

func (l *madeLic) standing(levels map[string]int) int {
	if l.name != "" {
		return levels[l.name]
	}
	list := []int{}
	for _, kid := range l.kids {
		list = append(list, kid.standing(levels))
	}
	sort.Ints(list)
	return list[len(list)-l.count]
}

func (l *madeLic) names() []string {
	if l.name != "" {
		return []string{l.name}
	}
	list := []string{}
	for _, kid := range l.kids {
		list = append(list, kid.names()...)
	}
	return list
}

type madeAssertion struct {
	by    string
	lic   *madeLic
	worth int
}

// lowestOfPolicy tries all the ways in which people could stand, and answers
// the lowest at which POLICY stands in one that every assertion allows.
func lowestOfPolicy(asserts []madeAssertion, reqs []string, top int) int {
	lowest := top
	levels := map[string]int{}
	var try func(k int)
	try = func(k int) {
		if k < len(people) {
			from := 0
			if slices.Contains(reqs, people[k]) {
				from = top
			}
			for level := from; level <= top; level++ {
				levels[people[k]] = level
				try(k + 1)
			}
			return
		}
		for _, a := range asserts {
			if levels[a.by] < min(a.worth, a.lic.standing(levels)) {
				return
			}
		}
		lowest = min(lowest, levels["POLICY"])
	}
	try(0)
	return lowest
}

// rowFault says why a row is none as P8 wants it, or "".
func rowFault(row string, asserts []madeAssertion, reqs []string) string {
	named := []string{"POLICY"}
	for i := range row {
		k := int(row[i]) - '0'
		switch {
		case k < 0 || k >= len(asserts):
			return "no number of an assertion"
		case strings.IndexByte(row[:i], row[i]) >= 0:
			return "a number twice"
		case asserts[k].worth == 0:
			return "conditions at the lowest"
		case !slices.Contains(named, asserts[k].by):
			return "by nobody named ahead"
		}
		named = asserts[k].lic.names()
	}
	for _, name := range named {
		if slices.Contains(reqs, name) {
			return ""
		}
	}
	return "no requester at its end"
}

func (m *maker) assertions(values []string) (string, []madeAssertion) {
	set, asserts := "", []madeAssertion{}
	for n := m.random.Intn(9); n > 0; n-- {
		a := madeAssertion{by: m.pick(people...), lic: m.lic(m.random.Intn(3)), worth: m.random.Intn(len(values))}
		conds := "true -> " + values[a.worth]
		switch {
		case a.worth == 0 && m.random.Intn(2) == 0:
			conds = "1 / 0 == 1; false"
		case a.worth == len(values)-1:
			conds = "a == \"4\"; false"
		}
		set += said(a.by, m.written(a.lic), conds)
		asserts = append(asserts, a)
	}
	return set, asserts
}

func TestRandomQueries(t *testing.T) {
	m := maker{random: rand.New(rand.NewSource(6))}
	seen, rows := map[string]int{}, map[int]int{}
	for i := 0; i < 12000; i++ {
		values := []string{"no", "low", "mid", "high", "yes"}[:2+i%4]
		set, asserts := m.assertions(values)
		if len(set) > 600 {
			continue
		}
		reqs := m.pick("", "A", "B", "D", "C,D", "E", "A,A", "E,D", "A,B,C,D")
		list := strings.Split(reqs, ",")
		want := values[lowestOfPolicy(asserts, list, len(values)-1)]
		value, errno := trust.Query(set, "a=4", strings.Join(values, ","), reqs)
		if value != want || errno != trust.OK {
			t.Fatalf("Query(%q, %q, %q) = %q, %d, want %q", set, values, reqs, value, errno, want)
		}
		row, errno := trust.Chain(set, "a=4", strings.Join(values, ","), reqs)
		if errno != trust.OK || (row == "") != (value == "no") {
			t.Fatalf("Query(%q, %q, %q) = %q, Chain = %q, %d", set, values, reqs, value, row, errno)
		}
		if fault := rowFault(row, asserts, list); row != "" && fault != "" {
			t.Fatalf("Chain(%q, %q, %q) = %q: %s", set, values, reqs, row, fault)
		}
		seen[value]++
		rows[len(row)]++
	}
	if len(seen) < 5 || seen["no"] < 500 || seen["yes"] < 50 || rows[2] < 200 || rows[3] < 20 {
		t.Errorf("only %v, rows %v", seen, rows)
	}
}
