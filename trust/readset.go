package trust

// readSet goes through the whole text, or to its first fault: then the
// reader that it answers is bad and stands there.
func readSet(text string) reader {
	r := reader{text: text}
	for !r.bad && r.at < len(r.text) {
		r.assertion()
	}
	return r
}

func (r *reader) assertion() {
	r.lineStart("by")
	by := r.name()
	r.word("\n")
	r.lineStart("to")
	to := r.lic()
	r.word("\n")
	r.lineStart("if")
	conds := r.conds()
	r.word("\n")
	r.tree.asserts = append(r.tree.asserts, assertion{by: by, to: to, conds: conds})
}

func (r *reader) lineStart(word string) {
	r.word(word)
	r.sign(" ")
}

func (r *reader) lic() int {
	left := r.licAnd()
	for r.peek() == '|' {
		r.sign("||")
		right := r.licAnd()
		left = r.addLicPair("||", left, right)
	}
	return left
}

func (r *reader) licAnd() int {
	left := r.licOne()
	for r.peek() == '&' {
		r.sign("&&")
		right := r.licOne()
		left = r.addLicPair("&&", left, right)
	}
	return left
}

func (r *reader) licOne() int {
	if r.peek() == '(' {
		r.sign("(")
		inner := r.lic()
		r.sign(")")
		return inner
	}
	if r.atDigit() {
		return r.licOf()
	}
	name := r.name()
	r.tree.lics = append(r.tree.lics, lic{form: licName, text: name, left: noNode, right: noNode})
	return len(r.tree.lics) - 1
}

func (r *reader) licOf() int {
	place := r.at
	count := r.peek() - '0'
	r.at++
	r.sign("-of(")
	items := []int{}
	item := r.lic()
	items = append(items, item)
	for r.peek() == ',' {
		r.sign(",")
		item = r.lic()
		items = append(items, item)
	}
	r.sign(")")
	r.tree.lics = append(r.tree.lics, lic{form: licOf, place: place, count: count, left: noNode, right: noNode, items: items})
	return len(r.tree.lics) - 1
}

func (r *reader) addLicPair(sign string, left int, right int) int {
	r.tree.lics = append(r.tree.lics, lic{form: licPair, text: sign, left: left, right: right})
	return len(r.tree.lics) - 1
}

func (r *reader) conds() int {
	clauses := []clause{}
	next := r.clause()
	clauses = append(clauses, next)
	for r.peek() == ';' {
		r.sign(";")
		next = r.clause()
		clauses = append(clauses, next)
	}
	r.tree.conds = append(r.tree.conds, conds{clauses: clauses})
	return len(r.tree.conds) - 1
}

func (r *reader) clause() clause {
	place := r.at
	whole := r.expr()
	test := r.addTest(place, whole)
	if !r.atArrow() {
		return clause{test: test, form: resultNone, inner: noNode}
	}
	r.sign("->")
	if r.peek() == '{' {
		r.sign("{")
		inner := r.conds()
		r.sign("}")
		return clause{test: test, form: resultConds, inner: inner}
	}
	name := r.name()
	return clause{test: test, form: resultName, result: name, inner: noNode}
}
