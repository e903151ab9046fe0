package trust

// The forms of a node of a licence.
const (
	licName = iota
	licPair // two operands with text, && or ||, between
	licOf   // count of the items
)

// The forms of a node of an expression.
const (
	exprNumber = iota
	exprString
	exprBool
	exprAttr   // the value of the attribute text
	exprAttrNo // the number that the attribute text says
	exprPrefix // text, ! or -, ahead of left
	exprPair   // left and right with the sign text between
	exprTest   // the whole E of a clause, which is left
)

// The forms of a clause's result.
const (
	resultNone = iota
	resultName
	resultConds
)

// noNode stands where a node has no operand.
const noNode = -1

// A lic is a node of a licence; its operands are places in tree.lics.
type lic struct {
	form  int
	text  string
	left  int
	right int
	place int // of K-of: where its K stands
	count int // of K-of: K
	items []int
}

// An expr is a node of an expression; its operands are places in tree.exprs.
type expr struct {
	form  int
	place int // where it stands; of an operator with its operands, the operator
	text  string
	left  int
	right int
}

type clause struct {
	test   int // an exprTest in tree.exprs
	form   int // of its result
	result string
	inner  int // in tree.conds, for resultConds
}

type conds struct {
	clauses []clause
}

type assertion struct {
	by    string
	to    int // in tree.lics
	conds int // in tree.conds
}

// A tree is a set as it was read. Every node stands behind its operands, the
// left one first, and a clause's test ahead of all that its result holds: the
// order in which faults are told, and why every walk down the tree ends.
type tree struct {
	asserts []assertion
	lics    []lic
	exprs   []expr
	conds   []conds
}

func (t *tree) licAt(i int) lic {
	if i < 0 || i >= len(t.lics) {
		return lic{left: noNode, right: noNode}
	}
	return t.lics[i]
}

func (t *tree) exprAt(i int) expr {
	if i < 0 || i >= len(t.exprs) {
		return expr{left: noNode, right: noNode}
	}
	return t.exprs[i]
}

func (t *tree) condsAt(i int) conds {
	if i < 0 || i >= len(t.conds) {
		return conds{}
	}
	return t.conds[i]
}
