package trust

// readExpr answers a bad reader if the text is no expression, else the place
// of the whole expression in the reader's tree, too.
func readExpr(text string) (reader, int) {
	r := reader{text: text}
	r.blanks()
	whole := r.expr()
	r.end()
	return r, whole
}

func (r *reader) expr() int {
	left := r.exprAnd()
	for r.peek() == '|' {
		place := r.at
		r.sign("||")
		right := r.exprAnd()
		left = r.addPair(place, "||", left, right)
	}
	return left
}

func (r *reader) exprAnd() int {
	left := r.exprNot()
	for r.peek() == '&' {
		place := r.at
		r.sign("&&")
		right := r.exprNot()
		left = r.addPair(place, "&&", left, right)
	}
	return left
}

func (r *reader) exprNot() int {
	if r.peek() != '!' {
		return r.comparison()
	}
	place := r.at
	r.sign("!")
	inner := r.exprNot()
	return r.addPrefix(place, "!", inner)
}

// comparison reads one comparing sign at most: a < b < c is no expression.
func (r *reader) comparison() int {
	left := r.sum()
	place := r.at
	sign := r.comparingSign()
	if sign == "" {
		return left
	}
	right := r.sum()
	return r.addPair(place, sign, left, right)
}

func (r *reader) comparingSign() string {
	switch r.peek() {
	case '=':
		r.sign("==")
		return "=="
	case '!':
		r.sign("!=")
		return "!="
	case '<':
		return r.orderingSign("<", "<=")
	case '>':
		return r.orderingSign(">", ">=")
	}
	return ""
}

func (r *reader) orderingSign(short string, long string) string {
	r.word(short)
	if r.peek() != '=' {
		r.blanks()
		return short
	}
	r.sign("=")
	return long
}

func (r *reader) sum() int {
	left := r.product()
	for {
		sign := r.sumSign()
		if sign == "" {
			return left
		}
		place := r.at
		r.sign(sign)
		right := r.product()
		left = r.addPair(place, sign, left, right)
	}
}

// sumSign looks for a sign and reads nothing. It leaves the arrow standing, so
// that one that may not stand there is a fault at its first byte.
func (r *reader) sumSign() string {
	if r.atArrow() {
		return ""
	}
	switch r.peek() {
	case '+':
		return "+"
	case '-':
		return "-"
	case '.':
		return "."
	}
	return ""
}

func (r *reader) product() int {
	left := r.unary()
	for {
		sign := r.productSign()
		if sign == "" {
			return left
		}
		place := r.at
		r.sign(sign)
		right := r.unary()
		left = r.addPair(place, sign, left, right)
	}
}

func (r *reader) productSign() string {
	switch r.peek() {
	case '*':
		return "*"
	case '/':
		return "/"
	case '%':
		return "%"
	}
	return ""
}

func (r *reader) unary() int {
	if r.peek() != '-' {
		return r.exprOne()
	}
	place := r.at
	r.sign("-")
	inner := r.unary()
	return r.addPrefix(place, "-", inner)
}

func (r *reader) exprOne() int {
	place := r.at
	if r.atDigit() {
		number := r.number()
		return r.addLeaf(exprNumber, place, number)
	}
	switch r.peek() {
	case '"':
		text := r.quoted()
		return r.addLeaf(exprString, place, text)
	case '@':
		r.word("@")
		name := r.name()
		return r.addLeaf(exprAttrNo, place, name)
	case '(':
		r.sign("(")
		inner := r.expr()
		r.sign(")")
		return inner
	}
	name := r.name()
	if name == "true" || name == "false" {
		return r.addLeaf(exprBool, place, name)
	}
	return r.addLeaf(exprAttr, place, name)
}

func (r *reader) addExpr(node expr) int {
	r.tree.exprs = append(r.tree.exprs, node)
	return len(r.tree.exprs) - 1
}

func (r *reader) addLeaf(form int, place int, text string) int {
	return r.addExpr(expr{form: form, place: place, text: text, left: noNode, right: noNode})
}

func (r *reader) addPrefix(place int, sign string, inner int) int {
	return r.addExpr(expr{form: exprPrefix, place: place, text: sign, left: inner, right: noNode})
}

func (r *reader) addPair(place int, sign string, left int, right int) int {
	return r.addExpr(expr{form: exprPair, place: place, text: sign, left: left, right: right})
}

func (r *reader) addTest(place int, whole int) int {
	return r.addExpr(expr{form: exprTest, place: place, left: whole, right: noNode})
}
