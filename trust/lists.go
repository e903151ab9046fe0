package trust

const (
	maxAttrs  = 100
	maxNames  = 60
	maxValue  = 20
	minValues = 2
	maxValues = 5
	maxReqs   = 4
)

const policy = "POLICY"

type attribute struct {
	name  string
	value string
}

// readAttrs answers true if the text is no list of attributes.
func readAttrs(text string) ([]attribute, bool) {
	list := []attribute{}
	if text == "" {
		return list, false
	}
	r := reader{text: text}
	next := r.attribute()
	list = append(list, next)
	for r.peek() == ';' {
		r.word(";")
		next = r.attribute()
		if attrPlace(list, next.name) != noPlace {
			r.fail()
		}
		list = append(list, next)
	}
	r.end()
	return list, r.bad
}

func (r *reader) attribute() attribute {
	name := r.bareName()
	r.word("=")
	from := r.at
	for r.at-from < maxValue && r.atValue() {
		r.at++
	}
	return attribute{name: name, value: r.text[from:r.at]}
}

func (r *reader) atValue() bool {
	c := r.peek()
	return c != noByte && c != ';' && c != '"'
}

// attrPlace is where a name stands in a list, or noPlace.
func attrPlace(list []attribute, name string) int {
	for i := 0; i < len(list); i++ {
		if list[i].name == name {
			return i
		}
	}
	return noPlace
}

func valueOf(list []attribute, name string) string {
	place := attrPlace(list, name)
	if place < 0 || place >= len(list) {
		return ""
	}
	return list[place].value
}

// readValues answers true if the text is no list of values.
func readValues(text string) ([]string, bool) {
	list, bad := readNames(text)
	if bad || len(list) < minValues || len(list) > maxValues {
		return []string{}, true
	}
	for i := 0; i < len(list); i++ {
		if placeOf(list, list[i]) != i {
			return []string{}, true
		}
	}
	return list, false
}

// readRequesters answers true if the text is no list of requesters. One who is
// named twice is no fault.
func readRequesters(text string) ([]string, bool) {
	if text == "" {
		return []string{}, false
	}
	list, bad := readNames(text)
	if bad || len(list) > maxReqs || placeOf(list, policy) != noPlace {
		return []string{}, true
	}
	return list, false
}

// readNames reads one or more names with a comma between, and answers true if
// the text is none such.
func readNames(text string) ([]string, bool) {
	r := reader{text: text}
	list := []string{}
	next := r.bareName()
	list = append(list, next)
	for r.peek() == ',' {
		r.word(",")
		next = r.bareName()
		list = append(list, next)
	}
	r.end()
	return list, r.bad
}

// placeOf is where a name stands first in a list, or noPlace.
func placeOf(list []string, name string) int {
	for i := 0; i < len(list); i++ {
		if list[i] == name {
			return i
		}
	}
	return noPlace
}

// entryAt is 0 where the list has no such entry.
func entryAt(list []int, i int) int {
	if i < 0 || i >= len(list) {
		return 0
	}
	return list[i]
}
