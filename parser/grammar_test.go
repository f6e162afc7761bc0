package parser

import (
	"math/rand/v2"
	"slices"
	"strconv"
	"strings"
	"testing"

	"debugger/api"
	"debugger/lexer"
)

// everything is a program with each rule of the grammar and each of its words and signs.
const everything = `record R { a } record S { b, c, d }
func f() { }
func g(a) { return a; }
func main(x, y) {
	var i: int; var t: int[8]; var r: R;
	i = 1; r.a = 2; t[i] = 3;
	i = f(); r.a = f(); t[i + 1] = f(1, i); f(); f(x, y, 1);
	if x { } if (x) { i = 1; } else { } if x < y { } else { i = 2; }
	while i <= 3 { i = i + 1; while t[i] != 0 { } }
	try { throw -x; } catch e { print e * !e / 2; } try { } catch x { }
	print (1 + 2) - 3 & t[r.a % 4] | 5 ^ 6 == 7;
	return f(); return g(-1, (2)); return !(-i);
}
`

// grammar is that of the promise P3.1, with a rule for each choice and none for each rule's own signs * and ?.
const grammar = `
program = records funcs
records = | record records
funcs = | func funcs
record = "record" NAME "{" names "}"
names = NAME | NAME "," names
func = "func" NAME "(" ")" block | "func" NAME "(" names ")" block
block = "{" statements "}"
statements = | statement statements
statement = "var" NAME ":" type ";"
statement = target "=" NAME "(" ")" ";" | target "=" NAME "(" arguments ")" ";"
statement = target "=" expression ";"
statement = NAME "(" ")" ";" | NAME "(" arguments ")" ";"
statement = "if" expression block | "if" expression block "else" block
statement = "while" expression block
statement = "return" NAME "(" ")" ";" | "return" NAME "(" arguments ")" ";"
statement = "return" expression ";"
statement = "throw" expression ";"
statement = "try" block "catch" NAME block
statement = "print" expression ";"
type = "int" | "int" "[" NUMBER "]" | NAME
target = NAME | NAME "." NAME | NAME "[" expression "]"
arguments = expression | expression "," arguments
expression = bits | bits compare bits
compare = "<" | "<=" | "==" | "!="
bits = sum | sum "&" bits | sum "|" bits | sum "^" bits
sum = product | product "+" sum | product "-" sum
product = unary | unary "*" product | unary "/" product | unary "%" product
unary = "-" unary | "!" unary | NUMBER | target | "(" expression ")"
`

// rules returns the choices of each rule of the grammar.
func rules() map[string][][]string {
	m := map[string][][]string{}
	for _, l := range strings.Split(strings.TrimSpace(grammar), "\n") {
		name, choices, _ := strings.Cut(l, " =")
		for _, c := range splitChoices(choices) {
			m[name] = append(m[name], c)
		}
	}
	return m
}

// splitChoices returns the parts of each choice; the sign "|" is one in quotes.
func splitChoices(s string) [][]string {
	list := [][]string{{}}
	for _, p := range strings.Fields(s) {
		if p == "|" {
			list = append(list, []string{})
			continue
		}
		list[len(list)-1] = append(list[len(list)-1], p)
	}
	return list
}

// item is a choice of a rule of which some parts have been read, the first one at a place of the text.
type item struct {
	name        string
	choice, dot int
	from        int
}

// recogniser tells which tokens a grammar allows behind others. It is one for any grammar, after Earley.
type recogniser struct {
	rules map[string][][]string
	sets  [][]item // by place, complete
}

func newRecogniser() *recogniser {
	r := &recogniser{rules: rules()}
	r.sets = [][]item{complete(r.rules, [][]item{{{"program", 0, 0, 0}}}, 0)}
	return r
}

// read goes behind a token that the grammar allows.
func (r *recogniser) read(token string) bool {
	next := []item{}
	for _, x := range r.sets[len(r.sets)-1] {
		c := r.rules[x.name][x.choice]
		if x.dot < len(c) && fits(c[x.dot], token) {
			next = append(next, item{x.name, x.choice, x.dot + 1, x.from})
		}
	}
	if len(next) == 0 {
		return false
	}
	r.sets = append(r.sets, next)
	r.sets[len(r.sets)-1] = complete(r.rules, r.sets, len(r.sets)-1)
	return true
}

// ends tells whether the grammar allows the end of the text.
func (r *recogniser) ends() bool {
	return slices.Contains(r.sets[len(r.sets)-1], item{"program", 0, 2, 0})
}

// firstWrong returns the number of the first of more tokens that the grammar does not allow at its place, counting the end of the text as one, or -1. It leaves the recogniser as it was.
func (r *recogniser) firstWrong(tokens []string) int {
	size := len(r.sets)
	defer func() { r.sets = r.sets[:size] }()
	for i, t := range tokens {
		if !r.read(t) {
			return i
		}
	}
	if r.ends() {
		return -1
	}
	return len(tokens)
}

// complete returns the items at a place with all that follow from them.
func complete(all map[string][][]string, sets [][]item, at int) []item {
	set := slices.Clone(sets[at])
	seen := map[item]bool{}
	for _, x := range set {
		seen[x] = true
	}
	add := func(x item) {
		if !seen[x] {
			seen[x] = true
			set = append(set, x)
		}
	}
	for changed := true; changed; {
		size := len(set)
		for i := 0; i < len(set); i++ {
			x := set[i]
			c := all[x.name][x.choice]
			if x.dot < len(c) {
				for j := range all[c[x.dot]] {
					add(item{c[x.dot], j, 0, at})
				}
				continue
			}
			origin := set
			if x.from < at {
				origin = sets[x.from]
			}
			for _, y := range origin {
				if d := all[y.name][y.choice]; y.dot < len(d) && d[y.dot] == x.name {
					add(item{y.name, y.choice, y.dot + 1, y.from})
				}
			}
		}
		// A choice without parts ends where it begins, where more items may be waiting for it later.
		changed = len(set) > size
	}
	return set
}

// fits tells whether a part of a choice is this token.
func fits(part, token string) bool {
	if part[0] == '"' {
		return part == `"`+token+`"`
	}
	if part == strings.ToLower(part) {
		return false
	}
	kind := api.TokenName
	if part == "NUMBER" {
		kind = api.TokenNumber
	}
	t, _, _ := lexer.Scan(token)
	return t[0].Kind == kind
}

// check checks the error of a text of the tokens that have been read and more, each in a line of its own.
func (r *recogniser) check(t *testing.T, ahead, more []string) {
	t.Helper()
	text := strings.Join(append(slices.Clone(ahead), more...), "\n") + "\n"
	p, line, e := Parse(text)
	switch at := r.firstWrong(more); {
	case at < 0 && (line != 0 || e != api.OK):
		t.Errorf("P3.1: Parse(%.300q) has the error %d in line %d", text, e, line)
	case at >= 0 && (line != len(ahead)+at+1 || e != api.ErrSyntax || key(p) != key(api.Program{})):
		t.Errorf("P3.2: Parse(%.300q) = %.300s, %d, %d, not the error %d in line %d", text, key(p), line, e, api.ErrSyntax, len(ahead)+at+1)
	}
}

func allTokens() []string {
	return strings.Fields("<= == != ( ) { } [ ] , ; : . + - * / % & | ^ < = ! record func var int if else while return throw try catch print x 1")
}

// Each token of a program is removed, repeated, or replaced by each other one, or has each other one ahead of it.
func TestChangedTexts(t *testing.T) {
	r := newRecogniser()
	tokens := split(everything)
	r.check(t, nil, tokens)
	for i, token := range tokens {
		ahead, behind := tokens[:i], tokens[i+1:]
		r.check(t, ahead, behind)
		for _, other := range allTokens() {
			r.check(t, ahead, append([]string{other}, behind...))
			r.check(t, ahead, append([]string{other, token}, behind...))
		}
		if !r.read(token) {
			t.Fatalf("P3.1: the grammar does not allow the token %d", i)
		}
	}
}

// Texts of few tokens that may stand in a place: all of them.
func TestShortTexts(t *testing.T) {
	for _, c := range []struct{ ahead, behind, tokens string }{
		{"", "", "record func x { } ( ) ,"},
		{"func f ( ) {", "}", "x ( ) = 1 ;"},
		{"func f ( ) { x =", "; }", "x ( ) - < 1"},
		{"func f ( ) { return", "}", "x ( ) - ; ,"},
		{"func f ( ) { print", "; }", "x [ ] . 1 ("},
		{"func f ( ) { var x", "}", "x : int [ 1 ] ;"},
		{"func f ( ) { if", "}", "x { } else ; if"},
		{"func f ( ) { try", "}", "x { } catch ;"},
	} {
		r := newRecogniser()
		for _, token := range strings.Fields(c.ahead) {
			r.read(token)
		}
		for size, count := 0, 1; count <= 10000; size, count = size+1, count*len(strings.Fields(c.tokens)) {
			for n := range count {
				more := digits(n, size, strings.Fields(c.tokens))
				r.check(t, strings.Fields(c.ahead), append(more, strings.Fields(c.behind)...))
			}
		}
	}
}

// digits returns a number with so many digits, which are these.
func digits(n, size int, of []string) []string {
	list := []string{}
	for range size {
		list = append(list, of[n%len(of)])
		n /= len(of)
	}
	return list
}

// writer makes programs by chance, always the same ones.
type writer struct {
	*rand.Rand
	room int // how many more statements and expressions there may be
}

func (w *writer) pick(list string) string {
	l := strings.Fields(list)
	return l[w.IntN(len(l))]
}

func (w *writer) nameOf() string { return w.pick("a b c f g R x1 _ abcdefghijkl") }

func (w *writer) expressions(level int) []api.Expr {
	list := []api.Expr{}
	for range w.IntN(4) {
		list = append(list, w.expression(level))
	}
	return list
}

// expression returns one with at most so many levels below it, counting each argument as one.
func (w *writer) expression(level int) api.Expr {
	w.room--
	if level == 0 || w.room < 0 || w.IntN(4) == 0 {
		return []api.Expr{number(w.IntN(20)), number(999999999999999999), variable(w.nameOf()), field(w.nameOf(), w.nameOf())}[w.IntN(4)]
	}
	switch op := api.ExprElement + w.IntN(api.ExprNotEqual-api.ExprElement+1); op {
	case api.ExprElement:
		return element(w.nameOf(), w.expression(level-1))
	case api.ExprNegate, api.ExprNot:
		return operation(op, w.expression(level-1))
	default:
		return operation(op, w.expression(level-1), w.expression(level-1))
	}
}

func (w *writer) target() api.Expr {
	switch w.IntN(3) {
	case 0:
		return variable(w.nameOf())
	case 1:
		return field(w.nameOf(), w.nameOf())
	}
	return element(w.nameOf(), w.expression(api.MaxNest-1))
}

func (w *writer) block(blocks int) []api.Stmt {
	list := []api.Stmt{}
	for range w.IntN(4) {
		if w.room > 0 {
			list = append(list, w.statement(blocks))
		}
	}
	return list
}

// statement returns one that lies in so many blocks.
func (w *writer) statement(blocks int) api.Stmt {
	w.room--
	last := api.StmtPrint
	value := one(w.expression(api.MaxNest))
	s := api.Stmt{Kind: 1 + w.IntN(last)}
	switch s.Kind {
	case api.StmtDeclare:
		s.Name = w.nameOf()
		switch w.IntN(3) {
		case 0:
			s.Type = w.nameOf()
		case 1:
			s.Len = 1 + w.IntN(api.MaxLen)
		}
	case api.StmtAssign:
		s.Target, s.Args = one(w.target()), value
	case api.StmtCall:
		s.Func, s.Args = w.nameOf(), w.expressions(api.MaxNest)
		if w.IntN(2) == 0 {
			s.Target = one(w.target())
		}
	case api.StmtReturn:
		s.Args = value
		if w.IntN(2) == 0 {
			s.Func, s.Args = w.nameOf(), w.expressions(api.MaxNest)
		}
	case api.StmtThrow, api.StmtPrint:
		s.Args = value
	case api.StmtTry:
		s.Name = w.nameOf()
	default:
		s.Args = value
	}
	if blocks < api.MaxNest && (s.Kind == api.StmtIf || s.Kind == api.StmtWhile || s.Kind == api.StmtTry) {
		s.Body = w.block(blocks + 1)
		if s.Kind != api.StmtWhile {
			s.Else = w.block(blocks + 1)
		}
	}
	return s
}

func (w *writer) program() api.Program {
	p := api.Program{}
	for range w.IntN(3) {
		p.Records = append(p.Records, api.Record{Name: w.nameOf(), Fields: []string{w.nameOf(), "b", w.nameOf()}[:1+w.IntN(3)]})
	}
	for range w.IntN(4) {
		f := api.Func{Name: w.nameOf(), Params: []string{w.nameOf(), "b", w.nameOf()}[:w.IntN(4)]}
		f.Body = append(w.block(1), api.Stmt{Kind: api.StmtEnd})
		p.Funcs = append(p.Funcs, f)
	}
	return p
}

// Programs by chance are printed and parsed again; then one of their tokens is another one.
func TestProgramsByChance(t *testing.T) {
	w := &writer{Rand: rand.New(rand.NewPCG(1, 2))}
	r := newRecogniser()
	short := 0
	for range 3000 {
		w.room = 5 + w.IntN(40)
		p := w.program()
		text := Print(p)
		if len(text) > api.MaxText {
			continue
		}
		short++
		got, line, e := Parse(text)
		if key(withoutLines(got)) != key(p) || line != 0 || e != api.OK {
			t.Fatalf("P3.4: Parse(%q) = %.300s, %d, %d, not %+v", text, key(got), line, e, p)
		}
		if again := Print(got); again != text {
			t.Fatalf("P3.4: Print of Parse of %.300q is %.300q", text, again)
		}
		if tokens := split(text); 0 < len(tokens) && len(tokens) < 100 {
			r.check(t, nil, tokens)
			tokens[w.IntN(len(tokens))] = allTokens()[w.IntN(len(allTokens()))]
			r.check(t, nil, tokens)
		}
	}
	if short < 2000 {
		t.Errorf("only %d programs were short enough", short)
	}
}

// Without any of its pairs of parentheses that stand around an operation the text of an expression is another one, or refused.
func TestParenthesesAreNeeded(t *testing.T) {
	w := &writer{Rand: rand.New(rand.NewPCG(3, 4))}
	pairs := 0
	for range 2000 {
		w.room = 12
		p := api.Program{Funcs: []api.Func{{Name: "f", Body: []api.Stmt{{Kind: api.StmtPrint, Args: one(w.expression(5))}, {Kind: api.StmtEnd}}}}}
		text := Print(p)
		for at, c := range text {
			if c != '(' || at == strings.IndexByte(text, '(') {
				continue
			}
			pairs++
			without := text[:at] + " " + text[at+1:]
			behind := closing(text, at)
			without = without[:behind] + " " + without[behind+1:]
			if got, _, e := Parse(without); e == api.OK && key(withoutLines(got)) == key(p) {
				t.Fatalf("P3.4: %q needs no parentheses at %s", text, strconv.Itoa(at))
			}
		}
	}
	if pairs < 500 {
		t.Errorf("only %d pairs of parentheses", pairs)
	}
}

// closing returns the place of the parenthesis that closes the one at a place.
func closing(text string, at int) int {
	open := 0
	for i := at; i < len(text); i++ {
		switch text[i] {
		case '(':
			open++
		case ')':
			open--
		}
		if open == 0 {
			return i
		}
	}
	return -1
}
