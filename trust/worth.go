package trust

import "strconv"

// maxNumber is the highest number of nine digits.
const maxNumber = 999999999

// A worth is what an expression comes to. An error is the one with the type
// typeWrong, so that a worth that was never set is an error.
type worth struct {
	kind   int // a type of expressions
	truth  bool
	number int64 // two of nine digits have a product that fits
	text   string
}

func boolWorth(truth bool) worth { return worth{kind: typeBool, truth: truth} }

func stringWorth(text string) worth { return worth{kind: typeString, text: text} }

func numberWorth(number int64) worth {
	if number > maxNumber || number < -maxNumber {
		return worth{}
	}
	return worth{kind: typeNumber, number: number}
}

func (w worth) failed() bool { return w.kind == typeWrong }

func (w worth) isTrue() bool { return w.kind == typeBool && w.truth }

func (w worth) printed() string {
	switch w.kind {
	case typeBool:
		if w.truth {
			return "true"
		}
		return "false"
	case typeNumber:
		return strconv.FormatInt(w.number, 10)
	case typeString:
		return "\"" + w.text + "\""
	}
	return "error"
}

// worths goes through the tree once, as every node stands behind its operands.
// So it finds the right operand of && and || even where it does not count;
// pairWorth leaves it aside then.
func (t *tree) worths(attrs []attribute) []worth {
	worths := []worth{}
	for i := 0; i < len(t.exprs); i++ {
		node := t.exprs[i]
		left := worthAt(worths, node.left)
		right := worthAt(worths, node.right)
		own := worthOf(node, left, right, attrs)
		worths = append(worths, own)
	}
	return worths
}

func worthAt(worths []worth, i int) worth {
	if i < 0 || i >= len(worths) {
		return worth{}
	}
	return worths[i]
}

func worthOf(node expr, left worth, right worth, attrs []attribute) worth {
	switch node.form {
	case exprNumber:
		return numberSaid(node.text)
	case exprString:
		return stringWorth(node.text)
	case exprBool:
		return boolWorth(node.text == "true")
	case exprAttr:
		value := valueOf(attrs, node.text)
		return stringWorth(value)
	case exprAttrNo:
		value := valueOf(attrs, node.text)
		return numberSaid(value)
	case exprPrefix:
		return prefixWorth(node.text, left)
	case exprPair:
		return pairWorth(node.text, left, right)
	case exprTest:
		return left
	}
	return worth{}
}

// numberSaid is an error if the text says no number; -0 is none.
func numberSaid(text string) worth {
	r := reader{text: text}
	minus := r.peek() == '-'
	if minus {
		r.word("-")
	}
	digits := r.bareNumber()
	r.end()
	if r.bad || minus && digits == "0" {
		return worth{}
	}
	number := int64(0)
	for i := 0; i < len(digits); i++ {
		number = number*10 + int64(digits[i]-'0')
	}
	if minus {
		number = -number
	}
	return numberWorth(number)
}

func prefixWorth(sign string, operand worth) worth {
	if operand.failed() {
		return operand
	}
	if sign == "!" {
		return boolWorth(!operand.truth)
	}
	return numberWorth(-operand.number)
}

func pairWorth(sign string, left worth, right worth) worth {
	if left.failed() {
		return left
	}
	switch sign {
	case "&&":
		if !left.truth {
			return left
		}
		return right
	case "||":
		if left.truth {
			return left
		}
		return right
	}
	if right.failed() {
		return right
	}
	switch sign {
	case "+", "-", "*", "/", "%":
		return calculated(sign, left.number, right.number)
	case ".":
		return stringWorth(left.text + right.text)
	}
	return compared(sign, left, right)
}

func calculated(sign string, left int64, right int64) worth {
	switch sign {
	case "+":
		return numberWorth(left + right)
	case "-":
		return numberWorth(left - right)
	case "*":
		return numberWorth(left * right)
	}
	if right == 0 {
		return worth{}
	}
	if sign == "/" {
		return numberWorth(left / right)
	}
	return numberWorth(left % right)
}

// compared relies on both having the same type: in the fields of all other
// types they are alike then.
func compared(sign string, left worth, right worth) worth {
	same := left.number == right.number && left.text == right.text
	less := left.number < right.number || left.text < right.text
	switch sign {
	case "==":
		return boolWorth(same)
	case "!=":
		return boolWorth(!same)
	case "<":
		return boolWorth(less)
	case "<=":
		return boolWorth(less || same)
	case ">":
		return boolWorth(!less && !same)
	}
	return boolWorth(!less)
}
