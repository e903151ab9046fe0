package trust

import "strconv"

func printSet(t *tree) string {
	out := ""
	for i := 0; i < len(t.asserts); i++ {
		a := t.asserts[i]
		to := t.printLic(a.to)
		conds := t.printConds(a.conds)
		out += "by " + a.by + "\nto " + to + "\nif " + conds + "\n"
	}
	return out
}

func (t *tree) printLic(i int) string {
	node := t.licAt(i)
	switch node.form {
	case licPair:
		left := t.printLic(node.left)
		right := t.printLic(node.right)
		return printPair(left, node.text, right)
	case licOf:
		items := t.printItems(node.items)
		return strconv.Itoa(node.count) + "-of(" + items + ")"
	}
	return node.text
}

func (t *tree) printItems(items []int) string {
	out := ""
	for i := 0; i < len(items); i++ {
		if i > 0 {
			out += ", "
		}
		out += t.printLic(items[i])
	}
	return out
}

func (t *tree) printConds(i int) string {
	clauses := t.condsAt(i).clauses
	out := ""
	for k := 0; k < len(clauses); k++ {
		if k > 0 {
			out += "; "
		}
		out += t.printClause(clauses[k])
	}
	return out
}

func (t *tree) printClause(c clause) string {
	test := t.printExpr(c.test)
	switch c.form {
	case resultName:
		return test + " -> " + c.result
	case resultConds:
		return test + " -> {" + t.printConds(c.inner) + "}"
	}
	return test
}

func (t *tree) printExpr(i int) string {
	node := t.exprAt(i)
	switch node.form {
	case exprString:
		return "\"" + node.text + "\""
	case exprAttrNo:
		return "@" + node.text
	case exprPrefix:
		return node.text + t.printExpr(node.left)
	case exprPair:
		left := t.printExpr(node.left)
		right := t.printExpr(node.right)
		return printPair(left, node.text, right)
	case exprTest:
		return t.printExpr(node.left)
	}
	return node.text
}

func printPair(left string, sign string, right string) string {
	return "(" + left + " " + sign + " " + right + ")"
}
