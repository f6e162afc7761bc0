package dead

import "debugger/api"

// The second implementation reads the rules as they are written, and goes over the whole code as long as something changes.

// reading is a code of whose blocks each is reached.
type reading struct {
	code     api.Code
	possible map[claim]bool
	needed   map[[2]int]bool // by block and number
}

// claim says that a parameter of a block has an origin.
type claim struct{ block, number, origin int }

// reckon returns what Dead should make of a sound code.
func reckon(c api.Code) api.Code {
	r := reading{code: connected(c), possible: map[claim]bool{}, needed: map[[2]int]bool{}}
	r.guess()
	for r.contradicted() {
	}
	for r.spread() {
	}
	want := api.Code{Params: c.Params, Contexts: c.Contexts, Objects: c.Objects}
	for b := range r.code.Blocks {
		want.Blocks = append(want.Blocks, r.block(b))
	}
	return want
}

// connected returns a code without the blocks that are not reached.
func connected(c api.Code) api.Code {
	reach := make([]bool, len(c.Blocks))
	reach[0] = true
	for range c.Blocks {
		for i, b := range c.Blocks {
			for _, e := range b.Term.To {
				if reach[i] && e.Block >= 0 {
					reach[e.Block] = true
				}
			}
		}
	}
	ahead := func(block int) int {
		count := 0
		for i := range block {
			if reach[i] {
				count++
			}
		}
		return count
	}
	result := c
	result.Blocks = nil
	for i, b := range c.Blocks {
		if !reach[i] {
			continue
		}
		for j, e := range b.Term.To {
			if e.Block >= 0 {
				b.Term.To[j].Block = ahead(e.Block)
			}
		}
		result.Blocks = append(result.Blocks, b)
	}
	return result
}

// guess makes all origins possible.
func (r reading) guess() {
	for b, block := range r.code.Blocks {
		for p := range block.Params {
			for k := range r.code.Params {
				r.possible[claim{b, p, k}] = true
			}
		}
	}
}

// contradicted takes the claims back that contradict the rule, and tells whether there are such.
func (r reading) contradicted() bool {
	changed := false
	for b, block := range r.code.Blocks {
		for p := range block.Params {
			for k := range r.code.Params {
				c := claim{b, p, k}
				if r.possible[c] && !r.agrees(c) {
					delete(r.possible, c)
					changed = true
				}
			}
		}
	}
	return changed
}

func (r reading) agrees(c claim) bool {
	if c.block == 0 {
		return c.number == c.origin
	}
	for from, block := range r.code.Blocks {
		for _, e := range block.Term.To {
			if e.Block != c.block {
				continue
			}
			if v, has := argument(block.Term, e, c.number); !has || !r.may(from, v, c.origin) {
				return false
			}
		}
	}
	return true
}

// argument returns what an edge of a terminator has for a parameter, and whether it has something.
func argument(t api.Term, e api.Edge, parameter int) (int, bool) {
	list := e.Args
	if t.Kind == api.TermCall {
		list = append([]int{-1}, list...)
	}
	return list[parameter], list[parameter] >= 0
}

// may tells whether a value of a block may have an origin.
func (r reading) may(block, v, origin int) bool {
	if v < r.code.Blocks[block].Params {
		return r.possible[claim{block, v, origin}]
	}
	o := r.definition(block, v)
	return o.Kind == api.OpCopy && r.may(block, o.A, origin)
}

// definition returns the operation that defines a value; for a parameter it has no kind.
func (r reading) definition(block, v int) api.Op {
	for _, o := range r.code.Blocks[block].Ops {
		if o.Kind <= api.OpLoad && o.Dst == v {
			return o
		}
	}
	return api.Op{}
}

// spread notes everything that is needed if what is noted is, and tells whether that is more.
func (r reading) spread() bool {
	before := len(r.needed)
	for b, block := range r.code.Blocks {
		for p := range block.Params {
			if b == 0 {
				r.needed[[2]int{b, p}] = true
			}
		}
		for _, o := range block.Ops {
			r.spreadOperation(b, o)
		}
		r.spreadTerm(b, block.Term)
	}
	return len(r.needed) > before
}

func (r reading) spreadOperation(b int, o api.Op) {
	switch {
	case o.Kind == api.OpPrint, (o.Kind == api.OpCopy || o.Kind == api.OpLoad) && r.needed[[2]int{b, o.Dst}]:
		r.needed[[2]int{b, o.A}] = true
	case o.Kind == api.OpStore, o.Kind >= api.OpAdd && o.Kind <= api.OpNotEqual && r.needed[[2]int{b, o.Dst}]:
		r.needed[[2]int{b, o.A}] = true
		r.needed[[2]int{b, o.B}] = true
	}
}

func (r reading) spreadTerm(b int, t api.Term) {
	if t.Kind == api.TermBranch || t.Kind == api.TermReturn || t.Kind == api.TermThrow {
		r.needed[[2]int{b, t.A}] = true
	}
	for _, v := range t.Args {
		r.needed[[2]int{b, v}] = true
	}
	for _, e := range t.To {
		if e.Block < 0 {
			continue
		}
		for p := range r.code.Blocks[e.Block].Params {
			v, has := argument(t, e, p)
			if !has {
				r.needed[[2]int{e.Block, p}] = true
			} else if r.needed[[2]int{e.Block, p}] {
				r.needed[[2]int{b, v}] = true
			}
		}
	}
}

// stay returns the parameters of a block that stay.
func (r reading) stay(block int) []int {
	list := []int{}
	for p := range r.code.Blocks[block].Params {
		if r.needed[[2]int{block, p}] {
			list = append(list, p)
		}
	}
	return list
}

// block returns what becomes of a block.
func (r reading) block(b int) api.Block {
	old, stay := r.code.Blocks[b], r.stay(b)
	n := func(v int) int {
		for i, p := range stay {
			if p == v {
				return i
			}
		}
		return v
	}
	want := api.Block{Params: len(stay), Term: r.terminator(old.Term, n)}
	for _, o := range old.Ops {
		if o.Kind <= api.OpLoad && !r.needed[[2]int{b, o.Dst}] {
			continue
		}
		switch {
		case o.Kind == api.OpBind && o.Src.Kind == api.SrcValue:
			o.Src = r.found(b, o.Src.Val, o.Src.Add, n)
		case o.Kind >= api.OpAdd && o.Kind <= api.OpNotEqual, o.Kind == api.OpStore:
			o.A, o.B = n(o.A), n(o.B)
		case o.Kind == api.OpCopy, o.Kind == api.OpLoad, o.Kind == api.OpPrint:
			o.A = n(o.A)
		}
		want.Ops = append(want.Ops, o)
	}
	return want
}

func (r reading) terminator(t api.Term, n func(int) int) api.Term {
	want := api.Term{Kind: t.Kind, N: t.N, To: [2]api.Edge{{Block: t.To[0].Block}, {Block: t.To[1].Block}}}
	if t.Kind == api.TermBranch || t.Kind == api.TermReturn || t.Kind == api.TermThrow {
		want.A = n(t.A)
	}
	for _, v := range t.Args {
		want.Args = append(want.Args, n(v))
	}
	for i, e := range t.To {
		if e.Block < 0 {
			continue
		}
		for _, p := range r.stay(e.Block) {
			if v, has := argument(t, e, p); has {
				want.To[i].Args = append(want.To[i].Args, n(v))
			}
		}
	}
	return want
}

// found returns what a Bind to the value w of a block with the sum a gets.
func (r reading) found(block, w, a int, n func(int) int) api.Src {
	if r.needed[[2]int{block, w}] {
		return api.Src{Kind: api.SrcValue, Val: n(w), Add: a}
	}
	for k := range r.code.Params {
		if w < r.code.Blocks[block].Params && r.possible[claim{block, w, k}] {
			return api.Src{Kind: api.SrcEntry, Val: k, Add: a}
		}
	}
	o := r.definition(block, w)
	left, right := r.definition(block, o.A), r.definition(block, o.B)
	switch {
	case o.Kind == api.OpConst:
		return api.Src{Kind: api.SrcConstant, Add: o.N + a}
	case o.Kind == api.OpCopy:
		return r.found(block, o.A, a, n)
	case o.Kind == api.OpAdd && right.Kind == api.OpConst:
		return r.found(block, o.A, a+right.N, n)
	case o.Kind == api.OpAdd && left.Kind == api.OpConst:
		return r.found(block, o.B, a+left.N, n)
	case o.Kind == api.OpSub && right.Kind == api.OpConst:
		return r.found(block, o.A, a-right.N, n)
	}
	return api.Src{Kind: api.SrcNowhere}
}
