package trust

const (
	maxName   = 8
	maxDigits = 9
	maxQuoted = 12
)

// noByte is what stands behind the text's end.
const noByte = -1

// A reader goes through a text byte by byte and never back, so that the place
// where it stops is the first byte with which nothing goes on.
type reader struct {
	text string
	at   int // never above the text's length
	bad  bool
	tree tree
}

// peek answers noByte once the reader has failed: every loop ends then, and
// the place of the failure stays.
func (r *reader) peek() int {
	if r.bad || r.at >= len(r.text) {
		return noByte
	}
	return int(r.text[r.at])
}

func (r *reader) fail() { r.bad = true }

func (r *reader) blanks() {
	for r.peek() == ' ' {
		r.at++
	}
}

// word reads these bytes and no blanks behind them.
func (r *reader) word(word string) {
	for i := 0; i < len(word); i++ {
		if r.peek() != int(word[i]) {
			r.fail()
			return
		}
		r.at++
	}
}

// sign reads a whole token and the blanks behind it.
func (r *reader) sign(sign string) {
	r.word(sign)
	r.blanks()
}

func (r *reader) atLetter() bool {
	c := r.peek()
	return c >= 'a' && c <= 'z' || c >= 'A' && c <= 'Z'
}

func (r *reader) atDigit() bool {
	c := r.peek()
	return c >= '0' && c <= '9'
}

func (r *reader) atQuotable() bool {
	c := r.peek()
	return c != noByte && c != '"' && c != '\n'
}

// atArrow looks one byte further than all else: a '-' alone may be a minus.
func (r *reader) atArrow() bool {
	if r.peek() != '-' || r.at+1 >= len(r.text) {
		return false
	}
	return r.text[r.at+1] == '>'
}

// bareName reads a name and no blanks behind it.
func (r *reader) bareName() string {
	from := r.at
	for r.at-from < maxName && r.atLetter() {
		r.at++
	}
	if r.at == from || r.atLetter() {
		r.fail()
		return ""
	}
	return r.text[from:r.at]
}

func (r *reader) name() string {
	name := r.bareName()
	r.blanks()
	return name
}

// bareNumber reads a number and no blanks behind it.
func (r *reader) bareNumber() string {
	from := r.at
	most := maxDigits
	if r.peek() == '0' {
		most = 1
	}
	for r.at-from < most && r.atDigit() {
		r.at++
	}
	if r.at == from || r.atDigit() {
		r.fail()
		return ""
	}
	return r.text[from:r.at]
}

func (r *reader) number() string {
	number := r.bareNumber()
	r.blanks()
	return number
}

// end fails unless the whole text is read.
func (r *reader) end() {
	if r.at < len(r.text) {
		r.fail()
	}
}

// quoted answers what stands between the two quotation marks.
func (r *reader) quoted() string {
	r.word("\"")
	from := r.at
	for r.at-from < maxQuoted && r.atQuotable() {
		r.at++
	}
	text := r.text[from:r.at]
	r.sign("\"")
	return text
}
