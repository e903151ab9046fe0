package trust

// givenLevels answers the level that each assertion gives its 'by': the lower
// one of the worth of its conditions and the standing of its licence. All
// begin at the lowest, so that nobody lifts himself. Once a round lifts no
// assertion to a level, no later one does, so that as many rounds as
// assertions are enough.
func (g *ground) givenLevels() []int {
	worths := g.condsLevels()
	given := []int{}
	for round := 0; round < len(g.tree.asserts); round++ {
		given = g.lifted(worths, given)
	}
	return given
}

// lifted answers what the assertions give if each 'by' stands at what it was
// given ahead.
func (g *ground) lifted(worths []int, given []int) []int {
	lics := g.licLevels(given)
	next := []int{}
	for i := 0; i < len(g.tree.asserts); i++ {
		a := g.tree.asserts[i]
		worth := entryAt(worths, a.conds)
		standing := entryAt(lics, a.to)
		level := lower(worth, standing)
		next = append(next, level)
	}
	return next
}

// licLevels answers the standing of every node of the licences, which stand
// behind their operands.
func (g *ground) licLevels(given []int) []int {
	levels := []int{}
	for i := 0; i < len(g.tree.lics); i++ {
		level := g.licLevel(g.tree.lics[i], given, levels)
		levels = append(levels, level)
	}
	return levels
}

func (g *ground) licLevel(node lic, given []int, levels []int) int {
	switch node.form {
	case licOf:
		return g.countedLevel(node, levels)
	case licPair:
		left := entryAt(levels, node.left)
		right := entryAt(levels, node.right)
		if node.text == "&&" {
			return lower(left, right)
		}
		return higher(left, right)
	}
	return g.standing(node.text, given)
}

// countedLevel is the highest level at which as many items stand as the node
// counts.
func (g *ground) countedLevel(node lic, levels []int) int {
	for level := g.top(); level > 0; level-- {
		count := 0
		for i := 0; i < len(node.items); i++ {
			if entryAt(levels, node.items[i]) >= level {
				count++
			}
		}
		if count >= node.count {
			return level
		}
	}
	return 0
}

func (g *ground) standing(name string, given []int) int {
	if placeOf(g.reqs, name) != noPlace {
		return g.top()
	}
	level := 0
	for i := 0; i < len(g.tree.asserts); i++ {
		own := entryAt(given, i)
		if g.tree.asserts[i].by == name && own > level {
			level = own
		}
	}
	return level
}

func lower(a int, b int) int {
	if a < b {
		return a
	}
	return b
}

func higher(a int, b int) int {
	if a > b {
		return a
	}
	return b
}
