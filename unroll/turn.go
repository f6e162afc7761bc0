package unroll

import (
	"iter"

	"debugger/api"
	"debugger/behind"
	"debugger/duplicate"
	"debugger/operation"
)

// headOps is the greatest number of operations of a block that is put behind those that jump to it.
const headOps = 24

// turned returns a copy of a code with its loops turned round.
func turned(c api.Code) api.Code {
	result := duplicate.Code(c)
	left := api.MaxOps - operation.Count(c)
	for number, head := range jumps(c) {
		b := &result.Blocks[number]
		if len(head.Ops) <= left && behind.Fits(*b, head) {
			left -= len(head.Ops)
			behind.Add(b, duplicate.Block(head), b.Term.To[0].Args)
		}
	}
	return result
}

// jumps goes through the numbers of the blocks from 1 on that jump to the head of a loop, each with this head. (That is always another block, as it ends with a branch.)
func jumps(c api.Code) iter.Seq2[int, api.Block] {
	leading := make([]int, len(c.Blocks))
	for i := range c.Blocks {
		for e := range operation.Edges(&c.Blocks[i].Term) {
			leading[e.Block]++
		}
	}
	isHead := func(b int) bool {
		h := c.Blocks[b]
		return leading[b] > 1 && len(h.Ops) <= headOps && h.Term.Kind == api.TermBranch
	}
	return func(yield func(int, api.Block) bool) {
		for number, b := range c.Blocks {
			to := b.Term.To[0].Block
			if number > 0 && b.Term.Kind == api.TermJump && isHead(to) && !yield(number, c.Blocks[to]) {
				return
			}
		}
	}
}
