package lexer

import (
	"regexp"
	"slices"
	"strconv"
	"strings"
	"testing"

	"debugger/api"
)

func name(line int, s string) api.Token {
	return api.Token{Kind: api.TokenName, Line: line, Text: s}
}

func word(line int, s string) api.Token {
	return api.Token{Kind: api.TokenWord, Line: line, Text: s}
}

func sign(line int, s string) api.Token {
	return api.Token{Kind: api.TokenSign, Line: line, Text: s}
}

func number(line, n int) api.Token {
	return api.Token{Kind: api.TokenNumber, Line: line, Number: n}
}

func end(line int) api.Token { return api.Token{Kind: api.TokenEnd, Line: line} }

func list(l ...api.Token) []api.Token { return l }

func allWords() []string {
	return strings.Fields("record func var int if else while return throw try catch print")
}

func allSigns() []string {
	return strings.Fields("<= == != ( ) { } [ ] , ; : . + - * / % & | ^ < = !")
}

// expect checks that a text has these tokens.
func expect(t *testing.T, promise, text string, want ...api.Token) {
	t.Helper()
	got, line, e := Scan(text)
	if !slices.Equal(got, want) || line != 0 || e != api.OK {
		t.Errorf("%s: Scan(%.60q) = %v, %d, %d, not %v", promise, text, got, line, e, want)
	}
}

// refuse checks that a text has this error in this line.
func refuse(t *testing.T, promise, text string, line int, want api.Errno) {
	t.Helper()
	got, l, e := Scan(text)
	if len(got) != 0 || l != line || e != want {
		t.Errorf("%s: Scan(%.60q) = %.3v, %d, %d, not the error %d in line %d", promise, text, got, l, e, want, line)
	}
}

func TestExample(t *testing.T) {
	expect(t, "P2.3", "x1 <= 07", name(1, "x1"), sign(1, "<="), number(1, 7), end(1))
}

func TestProgram(t *testing.T) {
	text := "// doubles\nfunc f(a) {\n\tvar t: int[3];\r\n\tt[0] = a * 2; // twice\n\n\treturn t[0];\n}\n"
	want := slices.Concat(
		list(word(2, "func"), name(2, "f"), sign(2, "("), name(2, "a"), sign(2, ")"), sign(2, "{")),
		list(word(3, "var"), name(3, "t"), sign(3, ":"), word(3, "int"), sign(3, "["), number(3, 3), sign(3, "]"), sign(3, ";")),
		list(name(4, "t"), sign(4, "["), number(4, 0), sign(4, "]"), sign(4, "="), name(4, "a"), sign(4, "*"), number(4, 2), sign(4, ";")),
		list(word(6, "return"), name(6, "t"), sign(6, "["), number(6, 0), sign(6, "]"), sign(6, ";"), sign(7, "}"), end(8)),
	)
	expect(t, "P2.3", text, want...)
}

func TestTextsWithoutTokens(t *testing.T) {
	for text, line := range map[string]int{
		"": 1, " ": 1, " \t\r": 1, "\r": 1, "\n": 2, "\r\n": 2, "\n\r": 2, "\n\n\n": 4, " \n\t\n ": 3,
		"//": 1, "// a $ \x80 9z": 1, "//\n": 2, "// a\n// b": 2, "//\r//\r": 1, "///": 1, "\n//\n\n": 4, "// \x00\xff\n": 2, "//\xe2\x82\n": 2,
	} {
		expect(t, "P2.1", text, end(line))
	}
}

func TestBlanksSeparate(t *testing.T) {
	for _, c := range []struct {
		between string
		feeds   int
	}{
		{" ", 0}, {"\t", 0}, {"\r", 0}, {"\n", 1}, {"\r\n", 1}, {" \t\r\n\n ", 2},
		{"//\n", 1}, {"//b c 1 $ \xff\n", 1}, {" // b\n\n//c\n\t", 3}, {"// b\r// c\n", 1},
	} {
		next := 1 + c.feeds
		expect(t, "P2.1", "a"+c.between+"b", name(1, "a"), name(next, "b"), end(next))
		expect(t, "P2.1", "1"+c.between+"2", number(1, 1), number(next, 2), end(next))
		expect(t, "P2.1", "1"+c.between+"b", number(1, 1), name(next, "b"), end(next))
		expect(t, "P2.1", "if"+c.between+"int", word(1, "if"), word(next, "int"), end(next))
		expect(t, "P2.1", "<"+c.between+"=", sign(1, "<"), sign(next, "="), end(next))
		expect(t, "P2.1", "="+c.between+"=", sign(1, "="), sign(next, "="), end(next))
		if c.between[0] != '/' {
			expect(t, "P2.1", "/"+c.between+"/", sign(1, "/"), sign(next, "/"), end(next))
		}
	}
}

// Of three slashes the first two begin the comment.
func TestThreeSlashes(t *testing.T) {
	expect(t, "P2.1", "a///\n/", name(1, "a"), sign(2, "/"), end(2))
}

func TestLineOfTheEnd(t *testing.T) {
	expect(t, "P2.1", "a", name(1, "a"), end(1))
	expect(t, "P2.1", "a\n", name(1, "a"), end(2))
	expect(t, "P2.1", "\na\n\nb", name(2, "a"), name(4, "b"), end(4))
	expect(t, "P2.1", "a // b", name(1, "a"), end(1))
	expect(t, "P2.1", "a // b\n", name(1, "a"), end(2))
	expect(t, "P2.1", "a//", name(1, "a"), end(1))
	expect(t, "P2.1", "7//8", number(1, 7), end(1))
	expect(t, "P2.1", "a\rb\r", name(1, "a"), name(1, "b"), end(1))
}

func TestReservedWords(t *testing.T) {
	for _, w := range allWords() {
		expect(t, "P2.2", w, word(1, w), end(1))
		expect(t, "P2.2", "\n"+w+"("+w+"\n", word(2, w), sign(2, "("), word(2, w), end(3))
		for _, s := range []string{w + "s", w + "_", w + "1", "_" + w, "a" + w, w + w, strings.ToUpper(w), strings.ToUpper(w[:1]) + w[1:], w[:len(w)-1]} {
			if len(s) <= api.MaxName && !slices.Contains(allWords(), s) {
				expect(t, "P2.2", s, name(1, s), end(1))
			}
		}
	}
}

func TestNames(t *testing.T) {
	for _, s := range []string{"a", "z", "A", "Z", "_", "__", "_9", "a0", "Z9_z", "aZ09_", "x1y2", "for", "end", "mark", "true"} {
		expect(t, "P2.2", s, name(1, s), end(1))
	}
	for c := range 256 {
		s := string([]byte{byte(c)})
		if strings.Contains("abcdefghijklmnopqrstuvwxyzABCDEFGHIJKLMNOPQRSTUVWXYZ_", s) {
			expect(t, "P2.2", s, name(1, s), end(1))
			expect(t, "P2.2", "q"+s, name(1, "q"+s), end(1))
		}
	}
}

func TestNumbers(t *testing.T) {
	for s, n := range map[string]int{"0": 0, "00": 0, "7": 7, "07": 7, "10": 10, "1234567890": 1234567890, "000000000000000012": 12, "999999999999999999": 999999999999999999} {
		expect(t, "P2.2", s, number(1, n), end(1))
	}
	expect(t, "P2.2", "-5", sign(1, "-"), number(1, 5), end(1))
	expect(t, "P2.2", "1.2", number(1, 1), sign(1, "."), number(1, 2), end(1))
	expect(t, "P2.2", "a1.2", name(1, "a1"), sign(1, "."), number(1, 2), end(1))
}

func TestSigns(t *testing.T) {
	for _, s := range allSigns() {
		expect(t, "P2.2", s, sign(1, s), end(1))
		expect(t, "P2.2", "a"+s+"b", name(1, "a"), sign(1, s), name(1, "b"), end(1))
		expect(t, "P2.2", "1"+s+"2", number(1, 1), sign(1, s), number(1, 2), end(1))
		for _, r := range allSigns() {
			if joined := s[len(s)-1:] + r[:1]; joined != "//" && !slices.Contains(allSigns(), joined) {
				expect(t, "P2.2", s+r, sign(1, s), sign(1, r), end(1))
			}
		}
	}
}

func TestTheLongerSign(t *testing.T) {
	for text, signs := range map[string]string{
		"<=": "<=", "==": "==", "!=": "!=", "=<": "= <", "=!": "= !", "<<": "< <", "!!": "! !", "<!": "< !", "!<": "! <",
		"===": "== =", "====": "== ==", "<==": "<= =", "!==": "!= =", "<<=": "< <=", "!!=": "! !=", "=!=": "= !=", "=<=": "= <=", "<=<=": "<= <=", "<===": "<= ==",
		"&&": "& &", "||": "| |", "++": "+ +", "--": "- -", "**": "* *", "*/": "* /", "/*": "/ *", "/=": "/ =", "/ /": "/ /", "=//=": "=", "/\t//": "/", "*//": "*",
	} {
		want := []api.Token{}
		for _, s := range strings.Fields(signs) {
			want = append(want, sign(1, s))
		}
		expect(t, "P2.2", text, append(want, end(1))...)
	}
}

func TestLengthOfTheText(t *testing.T) {
	expect(t, "P2.3", strings.Repeat(" ", api.MaxText), end(1))
	expect(t, "P2.3", strings.Repeat("\n", api.MaxText), end(api.MaxText+1))
	expect(t, "P2.3", "//"+strings.Repeat("\xff", api.MaxText-2), end(1))
	expect(t, "P2.3", strings.Repeat(" ", api.MaxText-1)+"a", name(1, "a"), end(1))
	for _, first := range []string{"", "\n", "a", "$", "\n$", "7a", "\x80"} {
		for _, filler := range []string{" ", "\n", "a", "7", "(", "$", "\xff"} {
			text := first + strings.Repeat(filler, api.MaxText+1-len(first))
			refuse(t, "P2.3", text, 0, api.ErrLimit)
			refuse(t, "P2.3", text+text, 0, api.ErrLimit)
		}
	}
	refuse(t, "P2.3", strings.Repeat("\n", api.MaxText-1)+"$", api.MaxText, api.ErrToken)
}

// The limit counts bytes, not characters.
func TestLengthOfTheTextInBytes(t *testing.T) {
	text := "//" + strings.Repeat("ß", api.MaxText/2-1)
	expect(t, "P2.3", text, end(1))
	refuse(t, "P2.3", text+" ", 0, api.ErrLimit)
}

func TestLengthOfANumber(t *testing.T) {
	nines, ones := strings.Repeat("9", api.MaxDigits), strings.Repeat("1", api.MaxDigits)
	expect(t, "P2.3", nines+" "+ones, number(1, 999999999999999999), number(1, 111111111111111111), end(1))
	expect(t, "P2.3", strings.Repeat("0", api.MaxDigits), number(1, 0), end(1))
	for _, long := range []string{nines + "9", strings.Repeat("0", api.MaxDigits+1), strings.Repeat("0", api.MaxDigits) + "1", strings.Repeat("8", 3000)} {
		refuse(t, "P2.3", "a\n"+long, 2, api.ErrLimit)
		refuse(t, "P2.3", "a\n"+long+";\n$", 2, api.ErrLimit)
	}
}

func TestNumberAheadOfAName(t *testing.T) {
	for _, behind := range []string{"a", "z", "A", "Z", "_", "if", "e5", "_1", "x0"} {
		refuse(t, "P2.2", "\n7"+behind, 2, api.ErrToken)
		refuse(t, "P2.2", "\n"+strings.Repeat("7", api.MaxDigits)+behind+"\n", 2, api.ErrToken)
		refuse(t, "P2.3", "\n"+strings.Repeat("7", api.MaxDigits+1)+behind, 2, api.ErrLimit)
		refuse(t, "P2.3", "\n"+strings.Repeat("0", api.MaxDigits+1)+behind+"\n", 2, api.ErrLimit)
	}
	refuse(t, "P2.3", "7"+strings.Repeat("a", api.MaxName+1), 1, api.ErrToken)
}

func TestLengthOfANameOrWord(t *testing.T) {
	for _, s := range []string{"abcdefghijkl", "____________", "a00000000001", "returnreturn"} {
		expect(t, "P2.3", "\n"+s+"\n", name(2, s), end(3))
		for _, more := range []string{"m", "_", "0", "mn", strings.Repeat("m", 3000)} {
			refuse(t, "P2.3", "\n"+s+more, 2, api.ErrLimit)
			refuse(t, "P2.3", "\n"+s+more+"\n$", 2, api.ErrLimit)
		}
		expect(t, "P2.3", s+"+"+s, name(1, s), sign(1, "+"), name(1, s), end(1))
	}
}

func TestNumberOfTokens(t *testing.T) {
	for unit, kind := range map[string]api.Token{"(": sign(0, "("), "a ": name(0, "a"), "7 ": number(0, 7), "7\n": number(0, 7)} {
		want := []api.Token{}
		line := 1
		for range api.MaxTokens {
			kind.Line = line
			want = append(want, kind)
			line += strings.Count(unit, "\n")
		}
		text := strings.Repeat(unit, api.MaxTokens)
		expect(t, "P2.3", text, append(want, end(line))...)
		expect(t, "P2.3", text[:len(text)-len(unit)], append(want[:api.MaxTokens-1], end(line-strings.Count(unit, "\n")))...)
	}
	full := strings.Repeat("(", api.MaxTokens)
	for _, more := range []string{"(", "a", "7", "if", "<=", "( $", "a$", "(((", strings.Repeat("7", api.MaxDigits)} {
		refuse(t, "P2.3", full+more, 1, api.ErrLimit)
		refuse(t, "P2.3", full+"\n// c\n"+more+"\n", 3, api.ErrLimit)
	}
	for _, gap := range []string{" ", "\n", "//", "// (\n"} {
		if _, line, e := Scan(full + gap); line != 0 || e != api.OK {
			t.Errorf("P2.3: %d tokens and %q: %d, %d", api.MaxTokens, gap, line, e)
		}
	}
}

// The other errors of the token that is one too many come first.
func TestErrorsOfTheTokenTooMany(t *testing.T) {
	full := strings.Repeat("(", api.MaxTokens) + "\n"
	for _, bad := range []string{"$", "7a", "\x80", ">", "7_ (", "$ ("} {
		refuse(t, "P2.3", full+bad, 2, api.ErrToken)
	}
	refuse(t, "P2.3", full+strings.Repeat("7", api.MaxDigits+1)+"a", 2, api.ErrLimit)
	refuse(t, "P2.3", full+"(\n$", 2, api.ErrLimit)
	refuse(t, "P2.3", full+"7\n7a", 2, api.ErrLimit)
}

func TestBytesOfTheLanguage(t *testing.T) {
	begin := "abcdefghijklmnopqrstuvwxyzABCDEFGHIJKLMNOPQRSTUVWXYZ_0123456789(){}[],;:.+-*/%&|^<=! \t\r\n"
	for c := range 256 {
		s := string([]byte{byte(c)})
		if strings.Contains(begin, s) {
			if _, line, e := Scan(s); line != 0 || e != api.OK {
				t.Errorf("P2.3: Scan(%q) = %d, %d", s, line, e)
			}
			continue
		}
		for _, ahead := range []string{"", "a", "7", "if", "<", "/", " ", "//\n"} {
			line := 1 + strings.Count(ahead, "\n")
			refuse(t, "P2.3", ahead+s, line, api.ErrToken)
			refuse(t, "P2.3", ahead+s+"a\n", line, api.ErrToken)
		}
		expect(t, "P2.1", "a//"+s+"\nb", name(1, "a"), name(2, "b"), end(2))
	}
}

func TestCharactersOfOtherScripts(t *testing.T) {
	for _, s := range []string{"ß", "é", "Ω", "世", "٣", "\uff11", "\uff41", "\u00a0", "\u2028", "\ufeff", "\u0130", "\u212a", "😀", "\xc3", "\xed\xa0\x80", "\xf4\x90\x80\x80", "\ufffd"} {
		refuse(t, "P2.3", s, 1, api.ErrToken)
		refuse(t, "P2.3", "\na"+s, 2, api.ErrToken)
		refuse(t, "P2.3", "\n7"+s, 2, api.ErrToken)
		refuse(t, "P2.3", "\n"+s+"a", 2, api.ErrToken)
		expect(t, "P2.1", "//"+s+"\n1", number(2, 1), end(2))
	}
}

func TestTheFirstErrorCounts(t *testing.T) {
	long, digits := strings.Repeat("a", api.MaxName+1), strings.Repeat("1", api.MaxDigits+1)
	refuse(t, "P2.3", "a\n$\n"+long, 2, api.ErrToken)
	refuse(t, "P2.3", "a\n"+long+"\n$", 2, api.ErrLimit)
	refuse(t, "P2.3", "a\n"+digits+"\n$", 2, api.ErrLimit)
	refuse(t, "P2.3", "a\n7a\n"+digits, 2, api.ErrToken)
	refuse(t, "P2.3", "a "+long+" $", 1, api.ErrLimit)
	refuse(t, "P2.3", "a $ "+long, 1, api.ErrToken)
	refuse(t, "P2.3", "7a "+long, 1, api.ErrToken)
	refuse(t, "P2.3", "a\n\n  7 // $\n @ b", 4, api.ErrToken)
}

// reference is the document's text as patterns: what the shortest rest of a text begins with.
type reference struct {
	gap, name, number, sign *regexp.Regexp
}

func newReference() reference {
	return reference{
		gap:    regexp.MustCompile(`^([ \t\r\n]|//[^\n]*)*`),
		name:   regexp.MustCompile(`^[a-zA-Z_][a-zA-Z_0-9]*`),
		number: regexp.MustCompile(`^[0-9]+`),
		sign:   regexp.MustCompile(`^(<=|==|!=|[(){}\[\],;:.+*/%&|^<=!-])`),
	}
}

func (r reference) scan(text string) ([]api.Token, int, api.Errno) {
	tokens := []api.Token{}
	for rest := text; ; {
		rest = rest[len(r.gap.FindString(rest)):]
		line := 1 + strings.Count(text[:len(text)-len(rest)], "\n")
		if rest == "" {
			return append(tokens, end(line)), 0, api.OK
		}
		if s := r.name.FindString(rest); s != "" {
			t := name(line, s)
			if slices.Contains(allWords(), s) {
				t = word(line, s)
			}
			tokens, rest = append(tokens, t), rest[len(s):]
		} else if s := r.number.FindString(rest); s != "" && r.name.FindString(rest[len(s):]) == "" {
			n, _ := strconv.Atoi(s)
			tokens, rest = append(tokens, number(line, n)), rest[len(s):]
		} else if s := r.sign.FindString(rest); s != "" {
			tokens, rest = append(tokens, sign(line, s)), rest[len(s):]
		} else {
			return nil, line, api.ErrToken
		}
	}
}

// Every short text over an alphabet in which every rule occurs.
func TestAllShortTexts(t *testing.T) {
	r := newReference()
	parts := []string{"a", "if", "_", "0", "7", "<", "=", "!", "/", " ", "\n", "\r", "(", "$", "\xc3", "\x9f"}
	texts := []string{""}
	for range 4 {
		longer := []string{}
		for _, s := range texts {
			for _, p := range parts {
				longer = append(longer, s+p)
			}
		}
		texts = longer
		for _, text := range texts {
			got, l, e := Scan(text)
			want, line, we := r.scan(text)
			if !slices.Equal(got, want) || l != line || e != we {
				t.Errorf("P2.3: Scan(%q) = %v, %d, %d, not %v, %d, %d", text, got, l, e, want, line, we)
			}
		}
	}
}

func TestResultsAreNew(t *testing.T) {
	text := "if x <= 7 {\n}"
	want := list(word(1, "if"), name(1, "x"), sign(1, "<="), number(1, 7), sign(1, "{"), sign(2, "}"), end(2))
	first, _, _ := Scan(text)
	clear(first)
	clear(first[len(first):cap(first)])
	expect(t, "P2.3", text, want...)
}
