package trust

const (
	maxText    = 600
	maxAsserts = 8
)

// noPlace says that there is no fault.
const noPlace = -1

// The types of expressions.
const (
	typeWrong = iota
	typeBool
	typeNumber
	typeString
)

type checked struct {
	errno Errno
	place int
	tree  tree
}

func checkSet(set string) checked {
	if len(set) > maxText {
		return checked{errno: ErrLong}
	}
	r := readSet(set)
	if r.bad {
		return checked{errno: ErrSyntax, place: r.at}
	}
	if len(r.tree.asserts) > maxAsserts {
		return checked{errno: ErrMany}
	}
	place := r.tree.countFault()
	if place != noPlace {
		return checked{errno: ErrCount, place: place}
	}
	place = r.tree.typeFault()
	if place != noPlace {
		return checked{errno: ErrType, place: place}
	}
	return checked{errno: OK, tree: r.tree}
}

// countFault compares places: an outer K stands ahead of the inner ones in
// the text, but behind them in the tree.
func (t *tree) countFault() int {
	first := noPlace
	for i := 0; i < len(t.lics); i++ {
		node := t.lics[i]
		if node.form != licOf || node.count >= 1 && node.count <= len(node.items) {
			continue
		}
		if first == noPlace || node.place < first {
			first = node.place
		}
	}
	return first
}

// typeFault relies on the order of the nodes: the first wrong one in the tree
// is the one to tell.
func (t *tree) typeFault() int {
	types := []int{}
	for i := 0; i < len(t.exprs); i++ {
		node := t.exprs[i]
		left := typeAt(types, node.left)
		right := typeAt(types, node.right)
		own := typeOf(node, left, right)
		if own == typeWrong {
			return node.place
		}
		types = append(types, own)
	}
	return noPlace
}

func typeAt(types []int, i int) int {
	if i < 0 || i >= len(types) {
		return typeWrong
	}
	return types[i]
}

// typeOf answers typeWrong if the operands are not as they must be.
func typeOf(node expr, left int, right int) int {
	switch node.form {
	case exprNumber, exprAttrNo:
		return typeNumber
	case exprString, exprAttr:
		return typeString
	case exprBool:
		return typeBool
	case exprTest:
		return typeIf(left == typeBool, typeBool)
	case exprPrefix:
		if node.text == "!" {
			return typeIf(left == typeBool, typeBool)
		}
		return typeIf(left == typeNumber, typeNumber)
	case exprPair:
		return typeOfPair(node.text, left, right)
	}
	return typeWrong
}

func typeOfPair(sign string, left int, right int) int {
	if left != right {
		return typeWrong
	}
	switch sign {
	case "||", "&&":
		return typeIf(left == typeBool, typeBool)
	case "==", "!=", "<", "<=", ">", ">=":
		return typeIf(left != typeBool, typeBool)
	case ".":
		return typeIf(left == typeString, typeString)
	}
	return typeIf(left == typeNumber, typeNumber)
}

func typeIf(fits bool, made int) int {
	if fits {
		return made
	}
	return typeWrong
}
