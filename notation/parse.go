package notation

import (
	"strconv"
	"strings"

	"debugger/api"
)

// reader takes the words of a part of a text in order.
type reader struct {
	words  []string
	failed bool
}

func read(text string) *reader {
	for _, sign := range []string{"(", ")", "."} {
		text = strings.ReplaceAll(text, sign, " "+sign+" ")
	}
	return &reader{words: strings.Fields(text)}
}

// Parse returns the code of a text, and whether it has one.
func Parse(text string) (api.Code, bool) {
	c := api.Code{Contexts: []api.Context{{Parent: -1, Stmt: -1}}}
	for line := range strings.Lines(text) {
		if strings.TrimSpace(line) == "" {
			continue
		}
		if !parseLine(&c, line) {
			return api.Code{}, false
		}
	}
	if len(c.Blocks) > 0 {
		c.Params = c.Blocks[0].Params
	}
	return c, true
}

func parseLine(c *api.Code, line string) bool {
	r := read(line)
	switch r.next() {
	case "func":
		c.Contexts[0].Func = r.number()
	case "context":
		c.Contexts = append(c.Contexts, api.Context{Parent: r.number(), Stmt: r.number(), Func: r.number()})
	case "object":
		c.Objects = append(c.Objects, api.Object{Ctx: r.number(), Var: r.number(), Words: r.number()})
	default:
		b, ok := parseBlock(line)
		c.Blocks = append(c.Blocks, b)
		return ok
	}
	return r.ended()
}

func parseBlock(line string) (api.Block, bool) {
	head, rest, _ := strings.Cut(line, ")")
	r := read(head)
	r.skip("(")
	b, parts := api.Block{Params: r.number()}, strings.Split(rest, ";")
	ok := r.ended()
	for _, part := range parts[:len(parts)-1] {
		r = read(part)
		b.Ops = append(b.Ops, r.operation())
		ok = ok && r.ended()
	}
	r = read(parts[len(parts)-1])
	b.Term = r.terminator()
	return b, ok && r.ended()
}

// ended tells whether all words were taken, and every one was what it had to be.
func (r *reader) ended() bool { return !r.failed && len(r.words) == 0 }

// next takes a word.
func (r *reader) next() string {
	if len(r.words) == 0 {
		r.failed = true
		return ""
	}
	word := r.words[0]
	r.words = r.words[1:]
	return word
}

// take takes a word if it is this one, and tells whether it was.
func (r *reader) take(word string) bool {
	if len(r.words) == 0 || r.words[0] != word {
		return false
	}
	r.words = r.words[1:]
	return true
}

// skip takes a word that has to be this one.
func (r *reader) skip(word string) {
	if !r.take(word) {
		r.failed = true
	}
}

func (r *reader) number() int { return r.integer(r.next()) }

// value takes the number of a value, which is written with a v ahead of it.
func (r *reader) value() int { return r.named(r.next()) }

func (r *reader) integer(text string) int {
	n, err := strconv.Atoi(text)
	if err != nil {
		r.failed = true
	}
	return n
}

func (r *reader) named(text string) int {
	number, ok := strings.CutPrefix(text, "v")
	if !ok {
		r.failed = true
	}
	return r.integer(number)
}

// values takes values within parentheses.
func (r *reader) values() []int {
	list := []int{}
	r.skip("(")
	for !r.failed && !r.take(")") {
		list = append(list, r.value())
	}
	return list
}

func (r *reader) edge() api.Edge { return api.Edge{Block: r.number(), Args: r.values()} }

// mayHave takes a number if a word is ahead of it; without that it is 0.
func (r *reader) mayHave(word string) int {
	if r.take(word) {
		return r.number()
	}
	return 0
}

func (r *reader) operation() api.Op {
	switch word := r.next(); word {
	case "store":
		return api.Op{Kind: api.OpStore, N: r.number(), A: r.value(), B: r.value()}
	case "zero":
		return api.Op{Kind: api.OpZero, N: r.number()}
	case "print":
		return api.Op{Kind: api.OpPrint, A: r.value()}
	case "mark":
		return api.Op{Kind: api.OpMark, N: r.number(), Ctx: r.mayHave("in")}
	case "at":
		return api.Op{Kind: api.OpAt, N: r.number(), Ctx: r.mayHave("in")}
	case "bind":
		o := api.Op{Kind: api.OpBind, Var: r.number(), Piece: r.mayHave("."), Ctx: r.mayHave("in")}
		r.skip("to")
		o.Src = r.source()
		return o
	default:
		dst := r.named(word)
		r.skip("=")
		return r.definition(dst)
	}
}

// definition takes what the value dst is.
func (r *reader) definition(dst int) api.Op {
	switch word := r.next(); {
	case word == "copy":
		return api.Op{Kind: api.OpCopy, Dst: dst, A: r.value()}
	case word == "load":
		return api.Op{Kind: api.OpLoad, Dst: dst, N: r.number(), A: r.value()}
	case strings.HasPrefix(word, "v"):
		return api.Op{Dst: dst, A: r.named(word), Kind: r.operator(), B: r.value()}
	default:
		return api.Op{Kind: api.OpConst, Dst: dst, N: r.integer(word)}
	}
}

// operator takes the sign of an operation with two operands.
func (r *reader) operator() int {
	word := r.next()
	for i, sign := range operators {
		if sign == word {
			return api.OpAdd + i
		}
	}
	r.failed = true
	return 0
}

// source takes what a piece is bound to.
func (r *reader) source() api.Src {
	switch word := r.next(); word {
	case "nowhere":
		return api.Src{Kind: api.SrcNowhere}
	case "constant":
		return api.Src{Kind: api.SrcConstant, Add: r.mayHave("+")}
	case "entry":
		return api.Src{Kind: api.SrcEntry, Val: r.number(), Add: r.mayHave("+")}
	default:
		return api.Src{Kind: api.SrcValue, Val: r.named(word), Add: r.mayHave("+")}
	}
}

func (r *reader) terminator() api.Term {
	t := api.Term{To: [2]api.Edge{none(), none()}}
	switch r.next() {
	case "jump":
		t.Kind, t.To[0] = api.TermJump, r.edge()
	case "branch":
		t.Kind, t.A, t.To[0], t.To[1] = api.TermBranch, r.value(), r.edge(), r.edge()
	case "call":
		t.Kind, t.N, t.Args, t.To[0] = api.TermCall, r.number(), r.values(), r.edge()
		if len(r.words) > 0 {
			t.To[1] = r.edge()
		}
	case "return":
		t.Kind, t.A = api.TermReturn, r.value()
	case "throw":
		t.Kind, t.A = api.TermThrow, r.value()
	case "tail":
		t.Kind, t.N, t.Args = api.TermTail, r.number(), r.values()
	default:
		r.failed = true
	}
	return t
}
