package unroll

import (
	"debugger/api"
	"debugger/duplicate"
	"debugger/passes"
)

// The second implementation makes the whole function that it would be with one more loop turned or unrolled, and then looks whether that is within the limits.

// reckon returns what Unroll should make of a sound code.
func reckon(c api.Code) api.Code {
	now := duplicate.Code(c)
	for b := range c.Blocks {
		if b == 0 || c.Blocks[b].Term.Kind != api.TermJump {
			continue
		}
		h := c.Blocks[b].Term.To[0].Block
		if h == b || count(c, h) < 2 || len(c.Blocks[h].Ops) > 24 || c.Blocks[h].Term.Kind != api.TermBranch {
			continue
		}
		then := duplicate.Code(now)
		then.Blocks[b] = both(c.Blocks[b], c.Blocks[h])
		if allowed(then) {
			now = then
		}
	}
	blocks := len(now.Blocks)
	for b := range blocks {
		t := now.Blocks[b].Term
		if t.Kind != api.TermBranch || t.To[0].Block != b && t.To[1].Block != b {
			continue
		}
		if then := twice(now, b); allowed(then) {
			now = then
		}
	}
	return now
}

// count returns how many edges lead to a block.
func count(c api.Code, block int) int {
	n := 0
	for _, b := range c.Blocks {
		for _, e := range b.Term.To {
			if e.Block == block {
				n++
			}
		}
	}
	return n
}

func allowed(c api.Code) bool {
	ops := 0
	for _, b := range c.Blocks {
		ops += len(b.Ops)
		for _, o := range b.Ops {
			if o.Dst > 9999 {
				return false
			}
		}
	}
	return ops <= 6000 && len(c.Blocks) <= 400
}

// both returns a block with the code of another one behind its own, to which it jumps.
func both(b, h api.Block) api.Block {
	last := b.Params - 1
	for _, o := range b.Ops {
		if o.Kind <= api.OpLoad {
			last = max(last, o.Dst)
		}
	}
	numbers := append([]int{}, b.Term.To[0].Args...)
	order := map[int]int{}
	for _, o := range h.Ops {
		if o.Kind <= api.OpLoad {
			order[o.Dst] = last + 1 + len(order)
		}
	}
	number := func(v int) int {
		if v < h.Params {
			return numbers[v]
		}
		return order[v]
	}
	result := api.Block{Params: b.Params, Ops: append([]api.Op{}, b.Ops...)}
	for _, o := range h.Ops {
		result.Ops = append(result.Ops, passes.Renamed(o, number))
	}
	result.Term = passes.Ended(h.Term, number, func(block int) int { return block })
	return result
}

// twice returns a code in which a block and its copy branch to each other.
func twice(c api.Code, block int) api.Code {
	same := func(v int) int { return v }
	b := c.Blocks[block]
	first := api.Block{Params: b.Params, Ops: b.Ops}
	first.Term = passes.Ended(b.Term, same, func(to int) int {
		if to == block {
			return len(c.Blocks)
		}
		return to
	})
	result := c
	result.Blocks = append(append([]api.Block{}, c.Blocks...), b)
	result.Blocks[block] = first
	return duplicate.Code(result)
}
