package fold

import (
	"fmt"
	"math/big"

	"debugger/api"
)

// The second implementation asks for each value of a block what it is, back to where it is defined, and reads the rules as they are written.

// meaning is what a value is: a constant, or the same as a value, which may be itself.
type meaning struct {
	constant   bool
	word, same int
}

// reader asks about the values of a block as it is before it is folded.
type reader struct {
	block api.Block
	known map[int]meaning
}

// definition returns the place of the operation that defines a value; -1: none.
func (r reader) definition(value int) int {
	for i, o := range r.block.Ops {
		if o.Kind <= api.OpLoad && o.Dst == value {
			return i
		}
	}
	return -1
}

func (r reader) meaning(value int) meaning {
	if m, ok := r.known[value]; ok {
		return m
	}
	m := meaning{same: value}
	if at := r.definition(value); at >= 0 {
		m = r.defined(r.block.Ops[at])
	}
	r.known[value] = m
	return m
}

// stand returns the value that stands for one.
func (r reader) stand(value int) int {
	if m := r.meaning(value); !m.constant {
		return m.same
	}
	return value
}

// defined returns what the value of an operation is.
func (r reader) defined(o api.Op) meaning {
	itself := meaning{same: o.Dst}
	switch {
	case o.Kind == api.OpConst:
		return meaning{constant: true, word: o.N}
	case o.Kind == api.OpCopy:
		return r.meaning(o.A)
	case o.Kind < api.OpAdd || o.Kind > api.OpNotEqual:
		return itself
	}
	a, b := r.meaning(o.A), r.meaning(o.B)
	divides := o.Kind == api.OpDiv || o.Kind == api.OpMod
	switch {
	case a.constant && b.constant && !(divides && b.word == 0):
		return meaning{constant: true, word: compute(signs[o.Kind-api.OpAdd], a.word, b.word)}
	case !a.constant && b.constant:
		return byRule(fmt.Sprintf("x %s %d", signs[o.Kind-api.OpAdd], b.word), a, itself)
	case a.constant && !b.constant:
		return byRule(fmt.Sprintf("%d %s x", a.word, signs[o.Kind-api.OpAdd]), b, itself)
	}
	return itself
}

func byRule(rule string, x, otherwise meaning) meaning {
	switch {
	case identities[rule]:
		return x
	case zeros[rule]:
		return meaning{constant: true}
	}
	return otherwise
}

// compute computes with numbers of any size.
func compute(sign string, left, right int) int {
	a, b, n := big.NewInt(int64(left)), big.NewInt(int64(right)), new(big.Int)
	order := map[bool]*big.Int{false: big.NewInt(0), true: big.NewInt(1)}
	switch sign {
	case "+":
		n.Add(a, b)
	case "-":
		n.Sub(a, b)
	case "*":
		n.Mul(a, b)
	case "/":
		n.Quo(a, b)
	case "%":
		n.Rem(a, b)
	case "&":
		n.And(a, b)
	case "|":
		n.Or(a, b)
	case "^":
		n.Xor(a, b)
	case "<":
		n = order[a.Cmp(b) < 0]
	case "<=":
		n = order[a.Cmp(b) <= 0]
	case "==":
		n = order[a.Cmp(b) == 0]
	case "!=":
		n = order[a.Cmp(b) != 0]
	}
	return int(new(big.Int).And(n, new(big.Int).SetUint64(1<<64-1)).Uint64())
}

// reckon returns what Fold should make of a sound code.
func reckon(c api.Code) api.Code {
	want := api.Code{Params: c.Params, Contexts: c.Contexts, Objects: c.Objects}
	for _, b := range c.Blocks {
		r := reader{b, map[int]meaning{}}
		block := api.Block{Params: b.Params, Term: r.terminator()}
		for i := range b.Ops {
			block.Ops = append(block.Ops, r.operation(i))
		}
		want.Blocks = append(want.Blocks, block)
	}
	return want
}

// operation returns what becomes of the operation at a place.
func (r reader) operation(place int) api.Op {
	o := r.block.Ops[place]
	if o.Kind <= api.OpNotEqual {
		if m := r.meaning(o.Dst); m.constant {
			return api.Op{Kind: api.OpConst, Dst: o.Dst, N: m.word}
		} else if m.same != o.Dst {
			return api.Op{Kind: api.OpCopy, Dst: o.Dst, A: m.same}
		}
		return api.Op{Kind: o.Kind, Dst: o.Dst, A: r.stand(o.A), B: r.stand(o.B)}
	}
	switch o.Kind {
	case api.OpLoad, api.OpPrint:
		o.A = r.stand(o.A)
	case api.OpStore:
		o.A, o.B = r.stand(o.A), r.stand(o.B)
	case api.OpBind:
		if o.Src.Kind != api.SrcValue || r.definition(o.Src.Val) > place {
			break
		}
		m := r.meaning(o.Src.Val)
		if m.constant {
			o.Src = api.Src{Kind: api.SrcConstant, Add: compute("+", m.word, o.Src.Add)}
		} else {
			o.Src.Val = m.same
		}
	}
	return o
}

func (r reader) list(values []int) []int {
	list := []int{}
	for _, v := range values {
		list = append(list, r.stand(v))
	}
	return list
}

func (r reader) edge(e api.Edge) api.Edge { return api.Edge{Block: e.Block, Args: r.list(e.Args)} }

func (r reader) terminator() api.Term {
	t := r.block.Term
	want := api.Term{Kind: t.Kind, N: t.N, Args: r.list(t.Args), To: [2]api.Edge{r.edge(t.To[0]), r.edge(t.To[1])}}
	switch t.Kind {
	case api.TermBranch:
		m := r.meaning(t.A)
		if m.constant && m.word != 0 {
			return api.Term{Kind: api.TermJump, To: [2]api.Edge{want.To[0], {Block: -1}}}
		}
		if m.constant {
			return api.Term{Kind: api.TermJump, To: [2]api.Edge{want.To[1], {Block: -1}}}
		}
		want.A = r.stand(t.A)
	case api.TermReturn, api.TermThrow:
		want.A = r.stand(t.A)
	}
	return want
}
