package trust

// A ground is what a question about a set rests on. Levels are places in its
// values: 0 is the lowest.
type ground struct {
	errno  Errno
	tree   tree
	attrs  []attribute
	values []string
	reqs   []string
}

// readGround takes the empty text for requesters where a call has none.
func readGround(set string, attrs string, values string, reqs string) ground {
	if len(set) > maxText || len(attrs) > maxAttrs || len(values) > maxNames || len(reqs) > maxNames {
		return ground{errno: ErrLong}
	}
	c := checkSet(set)
	if c.errno != OK {
		return ground{errno: c.errno}
	}
	attrList, badAttrs := readAttrs(attrs)
	valueList, badValues := readValues(values)
	reqList, badReqs := readRequesters(reqs)
	if badAttrs || badValues || badReqs {
		return ground{errno: ErrList}
	}
	if c.tree.hasOtherResult(valueList) {
		return ground{errno: ErrValue}
	}
	return ground{errno: OK, tree: c.tree, attrs: attrList, values: valueList, reqs: reqList}
}

// hasOtherResult tells whether a result anywhere in the set is no value.
func (t *tree) hasOtherResult(values []string) bool {
	for i := 0; i < len(t.conds); i++ {
		clauses := t.conds[i].clauses
		for j := 0; j < len(clauses); j++ {
			if clauses[j].form == resultName && placeOf(values, clauses[j].result) == noPlace {
				return true
			}
		}
	}
	return false
}

// condsLevels answers the level of every CONDS in the tree, the inner ones,
// which stand ahead of the outer ones, first.
func (g *ground) condsLevels() []int {
	worths := g.tree.worths(g.attrs)
	levels := []int{}
	for i := 0; i < len(g.tree.conds); i++ {
		level := g.highest(g.tree.conds[i].clauses, worths, levels)
		levels = append(levels, level)
	}
	return levels
}

func (g *ground) highest(clauses []clause, worths []worth, levels []int) int {
	highest := 0
	for i := 0; i < len(clauses); i++ {
		test := worthAt(worths, clauses[i].test)
		level := g.resultLevel(clauses[i], levels)
		if test.isTrue() && level > highest {
			highest = level
		}
	}
	return highest
}

func (g *ground) resultLevel(c clause, levels []int) int {
	switch c.form {
	case resultName:
		return placeOf(g.values, c.result)
	case resultConds:
		return entryAt(levels, c.inner)
	}
	return g.top()
}

// top is the level of the highest value.
func (g *ground) top() int { return len(g.values) - 1 }

func (g *ground) valueAt(level int) string {
	if level < 0 || level >= len(g.values) {
		return ""
	}
	return g.values[level]
}
