package tailcall

import (
	"math/rand/v2"
	"testing"

	"debugger/api"
	"debugger/modules"
	"debugger/passes"
)

// tailModule returns a module of the functions with tail calls, each of which is checked against the second implementation.
func tailModule(t *testing.T, m api.Module) api.Module {
	t.Helper()
	return passes.Applied(t, "P14.1", Tail, reckon, m)
}

// endingModule returns a module by chance in which many functions end with a call, or almost. Each call has a position of its own, at which half of the variables are in scope.
func endingModule(r *rand.Rand) (api.Source, api.Module) {
	s, m := modules.Module(r.IntN)
	for _, vars := range s.Vars {
		for v := range vars {
			if r.IntN(2) > 0 {
				vars[v].To = 9999
			}
		}
	}
	for f := range m.Funcs {
		c := &m.Funcs[f]
		for i := range c.Blocks {
			b := &c.Blocks[i]
			if b.Term.Kind != api.TermCall {
				continue
			}
			b.Ops = append(b.Ops, api.Op{Kind: api.OpAt, N: 100 + i})
			if r.IntN(4) > 0 {
				endWith(r, c, i)
			}
		}
	}
	return s, m
}

// endWith lets a call of a code lead to a new block that returns, mostly with nothing else.
func endWith(r *rand.Rand, c *api.Code, i int) {
	call := &c.Blocks[i].Term
	b := api.Block{Params: 1, Term: api.Term{Kind: api.TermReturn, To: [2]api.Edge{{Block: -1}, {Block: -1}}}}
	for range r.IntN(4) {
		b.Ops = append(b.Ops, []api.Op{
			{Kind: api.OpAt, N: r.IntN(10)},
			{Kind: api.OpBind, Var: r.IntN(5), Src: api.Src{Kind: api.SrcValue, Add: r.IntN(3)}},
			{Kind: api.OpBind, Var: r.IntN(5), Piece: r.IntN(2), Src: api.Src{Kind: api.SrcConstant, Add: r.IntN(3)}},
		}[r.IntN(3)])
	}
	call.To[0] = api.Edge{Block: len(c.Blocks)}
	switch r.IntN(12) {
	case 0:
		b.Ops = append(b.Ops, api.Op{Kind: api.OpPrint})
	case 1:
		b.Ops = append(b.Ops, api.Op{Kind: api.OpMark, N: r.IntN(10)})
	case 2:
		b.Ops = append(b.Ops, api.Op{Kind: api.OpConst, Dst: 1, N: r.IntN(3)})
		b.Term.A = r.IntN(2)
	case 3:
		b.Term.Kind = api.TermThrow
	case 4:
		b.Params, call.To[0].Args = 2, append([]int{}, c.Blocks[i].Ops[0].Dst)
		if c.Blocks[i].Ops[0].Kind > api.OpLoad {
			b.Params, call.To[0].Args = 1, nil
		}
	case 5, 6: // a handler stays
		c.Blocks = append(c.Blocks, b)
		return
	}
	call.To[1] = api.Edge{Block: -1}
	c.Blocks = append(c.Blocks, b)
}

// added returns how many tail calls another module has that a module has not.
func added(m, other api.Module) int { return count(other, api.TermTail) - count(m, api.TermTail) }

// tally counts what becomes of calls, and why they stay: for a handler, for arguments, for an operation, for another terminator. (There may be several reasons.)
type tally struct{ tails, handlers, arguments, operations, terminators int }

func (x *tally) count(c, got api.Code) {
	for i, b := range c.Blocks {
		switch {
		case b.Term.Kind != api.TermCall:
		case got.Blocks[i].Term.Kind == api.TermTail:
			x.tails++
		case b.Term.To[1].Block >= 0:
			x.handlers++
		case len(b.Term.To[0].Args) > 0:
			x.arguments++
		case c.Blocks[b.Term.To[0].Block].Term.Kind == api.TermReturn:
			x.operations++
		default:
			x.terminators++
		}
	}
}

func TestModulesByChance(t *testing.T) {
	r := rand.New(rand.NewPCG(14, 1))
	x := tally{}
	for range 8000 {
		_, m := endingModule(r)
		other := tailModule(t, m)
		for f, c := range m.Funcs {
			x.count(c, other.Funcs[f])
		}
	}
	t.Logf("%+v", x)
	if x.tails < 3000 || min(x.handlers, x.arguments, x.operations, x.terminators) < 500 {
		t.Errorf("only %+v", x)
	}
}

// Codes in which anything is changed come back as they are, or with tail calls if they are sound still.
func TestChangedCodes(t *testing.T) {
	r := rand.New(rand.NewPCG(14, 2))
	if sound := passes.ExpectChanged(t, "P14.1", Tail, reckon, r.IntN, 4000); sound < 500 || sound > 3000 {
		t.Errorf("%d of 4000 codes are sound", sound)
	}
}
