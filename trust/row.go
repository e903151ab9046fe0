package trust

import "strconv"

// row is one of the shortest rows from POLICY to a requester over assertions
// that give more than the lowest level. There is one if POLICY stands above
// it: whoever was lifted was lifted by a licence that names a requester or
// somebody lifted ahead. There is none else, as no assertion by POLICY gives
// more. Each assertion has a shorter row to go than the one ahead, so that
// none comes twice.
func (g *ground) row() string {
	lengths := g.rowLengths()
	next := g.nearest([]string{policy}, lengths)
	row := ""
	for left := entryAt(lengths, next); left > 0; left-- {
		row += strconv.Itoa(next)
		names := g.tree.licNames(next)
		next = g.nearest(names, lengths)
	}
	return row
}

// rowLengths answers for each assertion how many a shortest row from it to a
// requester has, or 0 if there is none. Each round finds the rows that are one
// longer; none is longer than all assertions.
func (g *ground) rowLengths() []int {
	given := g.givenLevels()
	lengths := []int{}
	for round := 0; round < len(g.tree.asserts); round++ {
		lengths = g.longerRows(given, lengths)
	}
	return lengths
}

func (g *ground) longerRows(given []int, lengths []int) []int {
	next := []int{}
	for i := 0; i < len(g.tree.asserts); i++ {
		length := 0
		if entryAt(given, i) > 0 {
			length = g.rowLength(i, lengths)
		}
		next = append(next, length)
	}
	return next
}

func (g *ground) rowLength(i int, lengths []int) int {
	names := g.tree.licNames(i)
	for k := 0; k < len(names); k++ {
		if placeOf(g.reqs, names[k]) != noPlace {
			return 1
		}
	}
	further := g.nearest(names, lengths)
	if further == noPlace {
		return 0
	}
	return 1 + entryAt(lengths, further)
}

// nearest is the assertion by one of the names that has the shortest row, or
// noPlace if none has a row.
func (g *ground) nearest(names []string, lengths []int) int {
	best := noPlace
	for i := 0; i < len(g.tree.asserts); i++ {
		length := entryAt(lengths, i)
		if length == 0 || placeOf(names, g.tree.asserts[i].by) == noPlace {
			continue
		}
		if best == noPlace || length < entryAt(lengths, best) {
			best = i
		}
	}
	return best
}

// licNames answers whom assertion i names behind 'to'. The nodes of its
// licence stand behind those of the assertion ahead, and the whole one last.
func (t *tree) licNames(i int) []string {
	names := []string{}
	if i < 0 || i >= len(t.asserts) {
		return names
	}
	from := 0
	if i > 0 {
		from = t.asserts[i-1].to + 1
	}
	for k := from; k <= t.asserts[i].to; k++ {
		node := t.licAt(k)
		if node.form == licName {
			names = append(names, node.text)
		}
	}
	return names
}
