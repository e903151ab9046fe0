// Package trust: who may what, by assertions of trust: see DOC.md.
package trust

// Errno is what a call answers: OK or the reason for a refusal.
type Errno int

const (
	OK        Errno = 0
	ErrLong   Errno = 1 // a text above its bound
	ErrSyntax Errno = 2 // no set, no expression
	ErrMany   Errno = 3 // too many assertions
	ErrCount  Errno = 4 // none of so many
	ErrType   Errno = 5 // an operand of the wrong type
	ErrList   Errno = 6 // attributes, values, requesters that are none
	ErrValue  Errno = 7 // a result that is no value
	ErrNone   Errno = 8 // no such assertion
)

// Check tells whether a text is a set of assertions (P3).
func Check(set string) (Errno, int) {
	c := checkSet(set)
	return c.errno, c.place
}

// Print writes a set in one way (P4).
func Print(set string) (string, Errno) {
	c := checkSet(set)
	if c.errno != OK {
		return "", c.errno
	}
	return printSet(&c.tree), OK
}

// Worth tells what an expression is worth (P5).
func Worth(expr string, attrs string) (string, Errno) {
	if len(expr) > maxText || len(attrs) > maxAttrs {
		return "", ErrLong
	}
	r, whole := readExpr(expr)
	if r.bad {
		return "", ErrSyntax
	}
	if r.tree.typeFault() != noPlace {
		return "", ErrType
	}
	list, bad := readAttrs(attrs)
	if bad {
		return "", ErrList
	}
	worths := r.tree.worths(list)
	own := worthAt(worths, whole)
	return own.printed(), OK
}

// Cond tells what an assertion's conditions are worth (P6).
func Cond(set string, k int, attrs string, values string) (string, Errno) {
	g := readGround(set, attrs, values, "")
	if g.errno != OK {
		return "", g.errno
	}
	if k < 0 || k >= len(g.tree.asserts) {
		return "", ErrNone
	}
	levels := g.condsLevels()
	level := entryAt(levels, g.tree.asserts[k].conds)
	return g.valueAt(level), OK
}

// Query tells at which value POLICY stands (P7).
func Query(set string, attrs string, values string, reqs string) (string, Errno) {
	g := readGround(set, attrs, values, reqs)
	if g.errno != OK {
		return "", g.errno
	}
	given := g.givenLevels()
	level := g.standing(policy, given)
	return g.valueAt(level), OK
}

// Chain tells by which assertions (P8).
func Chain(set string, attrs string, values string, reqs string) (string, Errno) {
	g := readGround(set, attrs, values, reqs)
	if g.errno != OK {
		return "", g.errno
	}
	return g.row(), OK
}
