package notation

import (
	"strconv"
	"strings"

	"debugger/api"
)

// Print returns a code as a text.
func Print(c api.Code) string {
	text := ""
	for i, x := range c.Contexts {
		switch {
		case i > 0:
			text += "context " + numbers(x.Parent, x.Stmt, x.Func) + "\n"
		case x.Func != 0:
			text += "func " + numbers(x.Func) + "\n"
		}
	}
	for _, o := range c.Objects {
		text += "object " + numbers(o.Ctx, o.Var, o.Words) + "\n"
	}
	for _, b := range c.Blocks {
		text += block(b) + "\n"
	}
	return text
}

func block(b api.Block) string {
	parts := []string{}
	for _, o := range b.Ops {
		parts = append(parts, operation(o))
	}
	return "(" + numbers(b.Params) + ") " + strings.Join(append(parts, terminator(b.Term)), "; ")
}

func numbers(list ...int) string {
	texts := []string{}
	for _, n := range list {
		texts = append(texts, strconv.Itoa(n))
	}
	return strings.Join(texts, " ")
}

func value(n int) string { return "v" + strconv.Itoa(n) }

func values(list []int) string {
	texts := []string{}
	for _, n := range list {
		texts = append(texts, value(n))
	}
	return "(" + strings.Join(texts, " ") + ")"
}

// more returns a number with a word ahead of it, or nothing for 0.
func more(word string, n int) string {
	if n == 0 {
		return ""
	}
	return word + strconv.Itoa(n)
}

func operation(o api.Op) string {
	switch o.Kind {
	case api.OpConst:
		return value(o.Dst) + " = " + numbers(o.N)
	case api.OpCopy:
		return value(o.Dst) + " = copy " + value(o.A)
	case api.OpLoad:
		return value(o.Dst) + " = load " + numbers(o.N) + " " + value(o.A)
	case api.OpStore:
		return "store " + numbers(o.N) + " " + value(o.A) + " " + value(o.B)
	case api.OpZero:
		return "zero " + numbers(o.N)
	case api.OpPrint:
		return "print " + value(o.A)
	case api.OpMark:
		return "mark " + numbers(o.N) + more(" in ", o.Ctx)
	case api.OpAt:
		return "at " + numbers(o.N) + more(" in ", o.Ctx)
	case api.OpBind:
		return "bind " + numbers(o.Var) + more(".", o.Piece) + more(" in ", o.Ctx) + " to " + source(o.Src)
	}
	if o.Kind < api.OpAdd || o.Kind > api.OpNotEqual {
		return "?"
	}
	return value(o.Dst) + " = " + value(o.A) + " " + operators[o.Kind-api.OpAdd] + " " + value(o.B)
}

func source(s api.Src) string {
	switch s.Kind {
	case api.SrcNowhere:
		return "nowhere"
	case api.SrcConstant:
		return "constant" + more(" + ", s.Add)
	case api.SrcValue:
		return value(s.Val) + more(" + ", s.Add)
	case api.SrcEntry:
		return "entry " + numbers(s.Val) + more(" + ", s.Add)
	}
	return "?"
}

func edge(e api.Edge) string { return strconv.Itoa(e.Block) + values(e.Args) }

func terminator(t api.Term) string {
	switch t.Kind {
	case api.TermJump:
		return "jump " + edge(t.To[0])
	case api.TermBranch:
		return "branch " + value(t.A) + " " + edge(t.To[0]) + " " + edge(t.To[1])
	case api.TermCall:
		text := "call " + numbers(t.N) + values(t.Args) + " " + edge(t.To[0])
		if t.To[1].Block >= 0 {
			text += " " + edge(t.To[1])
		}
		return text
	case api.TermReturn:
		return "return " + value(t.A)
	case api.TermThrow:
		return "throw " + value(t.A)
	case api.TermTail:
		return "tail " + numbers(t.N) + values(t.Args)
	}
	return "?"
}
