package tailcall

import (
	"debugger/api"
	"debugger/duplicate"
)

// reckon returns what Tail should make of a sound code: it builds the blocks as the document says.
func reckon(c api.Code) api.Code {
	result := duplicate.Code(api.Code{Params: c.Params, Contexts: c.Contexts, Objects: c.Objects})
	for _, b := range c.Blocks {
		b = duplicate.Block(b)
		if becomesTail(c, b.Term) {
			nowhere := api.Edge{Block: -1}
			b.Term = api.Term{Kind: api.TermTail, N: b.Term.N, Args: b.Term.Args, To: [2]api.Edge{nowhere, nowhere}}
		}
		result.Blocks = append(result.Blocks, b)
	}
	return result
}

// becomesTail tells whether a terminator of a code is a TermCall that becomes a TermTail.
func becomesTail(c api.Code, t api.Term) bool {
	if t.Kind != api.TermCall || t.To[1].Block != -1 || len(t.To[0].Args) > 0 {
		return false
	}
	next := c.Blocks[t.To[0].Block]
	others := 0
	for _, o := range next.Ops {
		switch o.Kind {
		case api.OpBind, api.OpAt:
		default:
			others++
		}
	}
	return others == 0 && next.Term.Kind == api.TermReturn && next.Term.A == 0
}
