package merge

import (
	"debugger/api"
	"debugger/passes"
)

// The second implementation puts the numbers of the blocks into chains, and looks at what is in them when all chains are complete.

// value is a value of a block, both by their numbers in the code as it was.
type value struct{ block, number int }

// chains are the blocks of a code, with each one behind that it is joined to.
type chains struct {
	code    api.Code
	leading map[int]int // the number of edges that lead to each block
	list    [][]int
}

// reckon returns what Merge should make of a sound code.
func reckon(c api.Code) api.Code {
	x := chains{code: c, leading: map[int]int{}}
	for i, b := range c.Blocks {
		x.list = append(x.list, []int{i})
		x.leading[b.Term.To[0].Block]++
		x.leading[b.Term.To[1].Block]++
	}
	for x.join() {
	}
	return x.result()
}

// join puts a chain behind the first one to which it can be joined, and tells whether there is one.
func (x *chains) join() bool {
	for i, chain := range x.list {
		t := x.code.Blocks[chain[len(chain)-1]].Term
		to := t.To[0].Block
		if t.Kind != api.TermJump || to == chain[0] || x.leading[to] != 1 {
			continue
		}
		j := x.at(to)
		both := append(append([]int{}, chain...), x.list[j]...)
		if _, greatest := x.names(both); greatest > 9999 {
			continue
		}
		x.list[i] = both
		x.list = append(x.list[:j:j], x.list[j+1:]...)
		return true
	}
	return false
}

// at returns which chain begins with a block.
func (x *chains) at(block int) int {
	for i, chain := range x.list {
		if chain[0] == block {
			return i
		}
	}
	return -1
}

// names returns the numbers of all values in the block that a chain becomes, and the greatest number that an operation of its later blocks defines.
func (x *chains) names(chain []int) (map[value]int, int) {
	names, next, greatest := map[value]int{}, 0, 0
	for i, b := range chain {
		block := x.code.Blocks[b]
		for p := range block.Params {
			names[value{b, p}] = p
			if i > 0 {
				from := chain[i-1]
				names[value{b, p}] = names[value{from, x.code.Blocks[from].Term.To[0].Args[p]}]
			}
		}
		if i == 0 {
			next = block.Params
		}
		for _, o := range block.Ops {
			switch {
			case o.Kind > api.OpLoad:
			case i == 0:
				names[value{b, o.Dst}] = o.Dst
				next = max(next, o.Dst+1)
			default:
				names[value{b, o.Dst}] = next
				greatest = next
				next++
			}
		}
	}
	return names, greatest
}

// result returns the code of all chains.
func (x *chains) result() api.Code {
	c := api.Code{Params: x.code.Params, Contexts: x.code.Contexts, Objects: x.code.Objects}
	for _, chain := range x.list {
		names, _ := x.names(chain)
		block := api.Block{Params: x.code.Blocks[chain[0]].Params}
		for _, b := range chain {
			n := func(v int) int { return names[value{b, v}] }
			for _, o := range x.code.Blocks[b].Ops {
				block.Ops = append(block.Ops, passes.Renamed(o, n))
			}
			block.Term = passes.Ended(x.code.Blocks[b].Term, n, x.at)
		}
		c.Blocks = append(c.Blocks, block)
	}
	return c
}
