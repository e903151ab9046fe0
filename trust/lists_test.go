package trust_test

import (
	"strings"
	"testing"

	"trustquery/trust"
)

// texts calls use for every text of up to so many of these bytes.
func texts(bytes string, most int, use func(string)) {
	var grow func(string)
	grow = func(text string) {
		use(text)
		if len(text) == most {
			return
		}
		for i := range bytes {
			grow(text + bytes[i:i+1])
		}
	}
	grow("")
}

func isName(text string) bool {
	return len(text) >= 1 && len(text) <= 8 && strings.Trim(text, "abcdefghijklmnopqrstuvwxyzABCDEFGHIJKLMNOPQRSTUVWXYZ") == ""
}

// attrsOf reads attributes by cutting, not byte by byte.
func attrsOf(text string) (map[string]string, bool) {
	found := map[string]string{}
	if text == "" {
		return found, true
	}
	for _, piece := range strings.Split(text, ";") {
		name, value, cut := strings.Cut(piece, "=")
		_, twice := found[name]
		if !cut || twice || !isName(name) || len(value) > 20 || strings.Contains(value, "\"") {
			return nil, false
		}
		found[name] = value
	}
	return found, true
}

func TestShortAttributes(t *testing.T) {
	texts("ab=;\"1 ", 6, func(text string) {
		found, right := attrsOf(text)
		want, errno := "", trust.ErrList
		if right {
			want, errno = "\""+found["a"]+"|"+found["b"]+"|"+found["ab"]+"\"", trust.OK
		}
		if worth, got := trust.Worth("a.\"|\".b.\"|\".ab", text); worth != want || got != errno {
			t.Errorf("with %q: %q, %d, want %q, %d", text, worth, got, want, errno)
		}
	})
}

func attrsErrno(t *testing.T, attrs string, errno trust.Errno) {
	t.Helper()
	if _, got := trust.Worth("a", attrs); got != errno {
		t.Errorf("Worth with the attributes %q: %d, want %d", attrs, got, errno)
	}
	if _, got := trust.Cond(plain, 0, attrs, "no,yes"); got != errno {
		t.Errorf("Cond with the attributes %q: %d, want %d", attrs, got, errno)
	}
}

func TestAttributes(t *testing.T) {
	twenty := "12345678901234567890"
	most := "a=" + twenty + ";b=" + twenty + ";c=" + twenty + ";d=" + twenty + ";e=123456"
	for _, attrs := range []string{
		"", "a=", "a=;b=", "a==", "a=a=a", "a= ", "a=\n", "a=\x00\xff", "a=" + twenty, "abcdefgh=1", "AZaz=1", "a=1;A=1", "a=1;aa=1",
		"a=,", "a={}", "POLICY=1", "true=1;false=1", most, "A=;B=;C=;D=;E=;F=;G=;H=;I=;J=;K=;L=;M=;N=;O=;P=;Q=;R=;S=;T=;U=;V=;W=;X=;Y=",
	} {
		attrsErrno(t, attrs, trust.OK)
	}
	for _, attrs := range []string{
		" ", ";", "=", "a", "1", "=1", "a=1;", ";a=1", "a=1;;b=1", "a=1;b", "a=1;=1", "a=1; b=1", " a=1", "a =1", "a\n=1", "a1=1", "1=1", "@a=1", "a,b=1",
		"a=\"", "a=\"x\"", "a=1;b=\"", "a=" + twenty + "1", "a=" + twenty + "\"", "abcdefghi=1", "a=1;abcdefghi=1", "a=1;a=1", "a=1;b=1;a=", "b=1;a=1;c=1;a=2", "\xff=1",
		strings.Repeat("a", 100),
	} {
		attrsErrno(t, attrs, trust.ErrList)
	}
	for _, attrs := range []string{most + "7", strings.Repeat("a", 101), strings.Repeat(";", 5000)} {
		attrsErrno(t, attrs, trust.ErrLong)
	}
	runWorths(t, most, []worthCase{{"@e", "123456"}, {"a . d", "\"" + twenty + twenty + "\""}})
}

// Every byte but the few that DOC.md names may stand in a string and in a value.
func TestEveryByte(t *testing.T) {
	for b := 0; b < 256; b++ {
		one := string([]byte{byte(b)})
		inString, inValue := worthCase{"\"x" + one + "\"", "\"x" + one + "\""}, worthCase{"a", "\"" + one + "x\""}
		switch b {
		case '"', '\n':
			runWorthFaults(t, "", trust.ErrSyntax, []string{inString.expr})
		default:
			runWorths(t, "", []worthCase{inString})
		}
		switch b {
		case '"', ';':
			runWorthFaults(t, "a="+one+"x", trust.ErrList, []string{inValue.expr})
		default:
			runWorths(t, "a="+one+"x", []worthCase{inValue})
		}
	}
}

func valuesErrno(text string) trust.Errno {
	list := strings.Split(text, ",")
	for i, name := range list {
		if !isName(name) {
			return trust.ErrList
		}
		for _, other := range list[:i] {
			if other == name {
				return trust.ErrList
			}
		}
	}
	if len(list) < 2 || len(list) > 5 {
		return trust.ErrList
	}
	return trust.OK
}

func TestShortValues(t *testing.T) {
	texts("abA,1", 7, func(text string) {
		want, lowest := "", ""
		errno := valuesErrno(text)
		if errno == trust.OK {
			want, lowest = text[strings.LastIndex(text, ",")+1:], text[:strings.Index(text, ",")]
		}
		if worth, got := trust.Cond(plain, 0, "", text); worth != want || got != errno {
			t.Errorf("the highest of %q: %q, %d, want %q, %d", text, worth, got, want, errno)
		}
		if worth, got := trust.Cond(cond("false"), 0, "", text); worth != lowest || got != errno {
			t.Errorf("the lowest of %q: %q, %d, want %q, %d", text, worth, got, lowest, errno)
		}
	})
}

func TestValues(t *testing.T) {
	for _, c := range []struct {
		values string
		errno  trust.Errno
	}{
		{"no,yes", trust.OK}, {"a,b,c,d,e", trust.OK}, {"a,A", trust.OK}, {"a,aa", trust.OK}, {"true,POLICY", trust.OK},
		{"abcdefgh,ABCDEFGH,bcdefghi,cdefghij,defghijk", trust.OK},
		{"", trust.ErrList}, {"no", trust.ErrList}, {",", trust.ErrList}, {"no,", trust.ErrList}, {",no", trust.ErrList}, {"no,,yes", trust.ErrList},
		{"a,b,c,d,e,f", trust.ErrList}, {"a,b,c,d,e,", trust.ErrList}, {"no,yes,no", trust.ErrList}, {"a,b,c,d,d", trust.ErrList},
		{"no, yes", trust.ErrList}, {" no,yes", trust.ErrList}, {"no,yes ", trust.ErrList}, {"no,yes\n", trust.ErrList}, {"no;yes", trust.ErrList},
		{"no,y3s", trust.ErrList}, {"no,abcdefghi", trust.ErrList}, {"abcdefghi,no", trust.ErrList}, {"no,y\xff", trust.ErrList}, {"no=yes", trust.ErrList},
		{strings.Repeat("a", 60), trust.ErrList}, {strings.Repeat("a", 61), trust.ErrLong}, {"no,yes" + strings.Repeat(" ", 55), trust.ErrLong},
	} {
		if _, errno := trust.Cond(plain, 0, "", c.values); errno != c.errno {
			t.Errorf("Cond with the values %q: %d, want %d", c.values, errno, c.errno)
		}
	}
}

func requestersErrno(text string) trust.Errno {
	list := strings.Split(text, ",")
	if text != "" && len(list) > 4 {
		return trust.ErrList
	}
	for _, name := range list {
		if text != "" && (!isName(name) || name == "POLICY") {
			return trust.ErrList
		}
	}
	return trust.OK
}

func TestShortRequesters(t *testing.T) {
	set := said("POLICY", "a || bb", "true")
	texts("ab,A1 ", 6, func(text string) {
		errno := requestersErrno(text)
		want, row := "", ""
		if errno == trust.OK {
			want = "no"
			for _, name := range strings.Split(text, ",") {
				if name == "a" || name == "bb" {
					want, row = "yes", "0"
				}
			}
		}
		runQueries(t, []queryCase{{set, "", "no,yes", text, want, row, errno}})
	})
}

func TestRequesters(t *testing.T) {
	for _, c := range []struct {
		reqs  string
		errno trust.Errno
	}{
		{"", trust.OK}, {"A", trust.OK}, {"A,B", trust.OK}, {"A,A", trust.OK}, {"A,A,A,A", trust.OK}, {"A,B,C,D", trust.OK},
		{"abcdefgh,ABCDEFGH,bcdefghi,cdefghij", trust.OK}, {"policy", trust.OK}, {"Policy,POLIC,POLICYS", trust.OK}, {"true,no,yes", trust.OK},
		{"POLICY", trust.ErrList}, {"POLICY,A", trust.ErrList}, {"A,POLICY", trust.ErrList}, {"A,B,C,POLICY", trust.ErrList}, {"A,POLICY,B", trust.ErrList},
		{"A,B,C,D,E", trust.ErrList}, {"A,A,A,A,A", trust.ErrList}, {"A,B,C,D,", trust.ErrList}, {",", trust.ErrList}, {"A,", trust.ErrList}, {",A", trust.ErrList}, {"A,,B", trust.ErrList},
		{" ", trust.ErrList}, {"A ", trust.ErrList}, {" A", trust.ErrList}, {"A, B", trust.ErrList}, {"A\n", trust.ErrList}, {"A;B", trust.ErrList}, {"A=B", trust.ErrList},
		{"1", trust.ErrList}, {"A1", trust.ErrList}, {"abcdefghi", trust.ErrList}, {"A,abcdefghi", trust.ErrList}, {"A\xff", trust.ErrList}, {"\x00", trust.ErrList},
		{strings.Repeat("A", 60), trust.ErrList}, {strings.Repeat(",", 60), trust.ErrList},
		{strings.Repeat("A", 61), trust.ErrLong}, {strings.Repeat(",", 61), trust.ErrLong}, {"A" + strings.Repeat(" ", 60), trust.ErrLong}, {strings.Repeat("A,", 5000000), trust.ErrLong},
	} {
		want := ""
		if c.errno == trust.OK {
			want = "no"
		}
		runQueries(t, []queryCase{{said("POLICY", "Z", "true"), "", "no,yes", c.reqs, want, "", c.errno}})
	}
}
