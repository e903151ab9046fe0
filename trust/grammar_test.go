package trust_test

import (
	"math/rand"
	"strings"
	"testing"

	"trustquery/trust"
)

// The grammar of DOC.md once more, read by a stack machine that follows every
// rule at once: what it says of a text owes nothing to the program's reader.
// A sign with no rule and no class stands for itself.
var rules = map[rune][]string{
	'S': {"", "AS"},
	'A': {"by WNW\nto WL\nif WC\n"},
	'W': {"", " W"},
	'N': {"ℓMMMMMMM"}, 'M': {"", "ℓ"},
	'L': {"PX"}, 'X': {"", "||WPX"},
	'P': {"OY"}, 'Y': {"", "&&WOY"},
	'O': {"NW", "(WL)W", "δ-of(WLZ)W"}, 'Z': {"", ",WLZ"},
	'C': {"KJ"}, 'J': {"", ";WKJ"},
	'K': {"B", "B->WR"},
	'R': {"NW", "{WC}W"},
	'B': {"TU"}, 'U': {"", "||WTU"},
	'T': {"FG"}, 'G': {"", "&&WFG"},
	'F': {"!WF", "ΣI"},
	'I': {"", "==WΣ", "!=WΣ", "<WΣ", "<=WΣ", ">WΣ", ">=WΣ"},
	'Σ': {"Πσ"}, 'σ': {"", "+WΠσ", "-WΠσ", ".WΠσ"},
	'Π': {"Υπ"}, 'π': {"", "*WΥπ", "/WΥπ", "%WΥπ"},
	'Υ': {"-WΥ", "Ω"},
	'Ω': {"DW", "QW", "NW", "@NW", "(WB)W"},
	'D': {"0", "νEEEEEEEE"}, 'E': {"", "δ"},
	'Q': {"\"VVVVVVVVVVVV\""}, 'V': {"", "κ"},
}

func fits(sign rune, c byte) bool {
	switch sign {
	case 'ℓ':
		return c >= 'a' && c <= 'z' || c >= 'A' && c <= 'Z'
	case 'δ':
		return c >= '0' && c <= '9'
	case 'ν':
		return c >= '1' && c <= '9'
	case 'κ':
		return c != '"' && c != '\n'
	}
	return sign == rune(c)
}

// A machine holds every stack with which the bytes so far may go on; the top
// of each is no rule, and the empty one says that a set may end here.
type machine map[string]bool

func (m machine) add(stack string, seen map[string]bool) {
	if seen[stack] {
		return
	}
	seen[stack] = true
	for _, top := range stack {
		alternatives, isRule := rules[top]
		if !isRule {
			break
		}
		for _, alternative := range alternatives {
			m.add(alternative+strings.TrimPrefix(stack, string(top)), seen)
		}
		return
	}
	m[stack] = true
}

func newMachine() machine {
	m := machine{}
	m.add("S", map[string]bool{})
	return m
}

func (m machine) step(c byte) machine {
	next := machine{}
	seen := map[string]bool{}
	for stack := range m {
		for _, top := range stack {
			if fits(top, c) {
				next.add(strings.TrimPrefix(stack, string(top)), seen)
			}
			break
		}
	}
	return next
}

func (m machine) steps(text string) machine {
	for i := 0; i < len(text); i++ {
		m = m.step(text[i])
	}
	return m
}

// sumGoesOn: a '+' may stand behind the text, so a SUM stands there; within a
// string anything may, a zero byte too.
func sumGoesOn(text string) bool {
	m := newMachine().steps(text)
	return len(m.step('+')) > 0 && len(m.step(0)) == 0
}

// deadPlace is where the last byte of a text, the first with which no set goes
// on, is told.
func deadPlace(text string) int {
	last := len(text) - 1
	if strings.HasSuffix(text, "->") && sumGoesOn(text[:last-1]) {
		return last - 1
	}
	return last
}

func wantSyntax(t *testing.T, text string, place int) {
	t.Helper()
	if errno, at := trust.Check(text); errno != trust.ErrSyntax || at != place {
		t.Fatalf("Check(%q) = %d, %d, want ErrSyntax, %d", text, errno, at, place)
	}
}

func wantSet(t *testing.T, text string) {
	t.Helper()
	if errno, at := trust.Check(text); errno == trust.ErrSyntax || errno == trust.ErrLong {
		t.Fatalf("Check(%q) = %d, %d, but it is a set", text, errno, at)
	}
}

// tryAll checks every text of at most depth more bytes of the alphabet.
func tryAll(t *testing.T, text string, m machine, alphabet string, depth int) int {
	if len(m) == 0 {
		wantSyntax(t, text, deadPlace(text))
		return 1
	}
	if m[""] {
		wantSet(t, text)
	} else {
		wantSyntax(t, text, len(text))
	}
	tried := 1
	for i := 0; depth > 0 && i < len(alphabet); i++ {
		tried += tryAll(t, text+alphabet[i:i+1], m.step(alphabet[i]), alphabet, depth-1)
	}
	return tried
}

func TestEveryShortText(t *testing.T) {
	for _, c := range []struct {
		start, alphabet string
		depth           int
	}{
		{"", "byAtoif \n1(", 6},
		{"by A\nto ", "A2-of(),|& \n", 6},
		{"by A\nto 2-of(", "A2-of(),|& \n", 5},
		{"by A\nto B\nif ", "a01\"@!=<>&|+-.*%(){}; \n", 4},
		{"by A\nto B\nif (a", "a1!=<>&|+-.*(){}; \n", 4},
		{"by A\nto B\nif a == b", "a=->{}(); \n", 5},
		{"by A\nto B\nif a -> {", "a=->{}(); \n", 5},
		{"by A\nto B\nif \"12345678901", "a\"\n =", 5},
		{"by A\nto B\nif 1234567", "0a\n =", 5},
		{"by A\nto B\nif @abcdef", "0a\n =", 5},
	} {
		tried := tryAll(t, c.start, newMachine().steps(c.start), c.alphabet, c.depth)
		t.Logf("%q: %d texts", c.start, tried)
	}
}

// tryText checks one text against the machine, from its first byte to the one
// that kills it or to its end.
func tryText(t *testing.T, text string) {
	m := newMachine()
	for i := 0; i < len(text); i++ {
		m = m.step(text[i])
		if len(m) == 0 {
			wantSyntax(t, text, deadPlace(text[:i+1]))
			return
		}
	}
	if m[""] {
		wantSet(t, text)
	} else {
		wantSyntax(t, text, len(text))
	}
}

func TestSpoiltSets(t *testing.T) {
	random := rand.New(rand.NewSource(2))
	sets := []string{
		"by POLICY\nto A && 2-of(B, (C || D), 1-of(E))\nif @n + 1 > 2 -> yes; a . \"x y\" == b -> {!true -> no; -1 < @m * 3}\n",
		"by  A \nto  B \nif  (a != b || !(1 - -2 >= 3 % 4)) && true -> maybe \nby C\nto D || E\nif false\n",
	}
	bytes := "aZ09 \n\"@!=<>&|+-*/%.,;(){}bytoif\x00\xff"
	for i := 0; i < 6000; i++ {
		text := sets[i%len(sets)]
		for n := 1 + random.Intn(2); n > 0; n-- {
			at := random.Intn(len(text))
			other := bytes[random.Intn(len(bytes))]
			switch random.Intn(4) {
			case 0:
				text = text[:at] + string([]byte{other}) + text[at:]
			case 1:
				text = text[:at] + string([]byte{other}) + text[at+1:]
			case 2:
				text = text[:at] + text[at+1:]
			default:
				text = text[:at] + "->" + text[at:]
			}
		}
		tryText(t, text)
	}
}
