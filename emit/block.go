package emit

import (
	"maps"

	"debugger/api"
	"debugger/operation"
)

// block is a block whose machine code is being written.
type block struct {
	*function
	api.Block
	places    []api.Place       // of its values
	constants map[int]int       // its values that are constants
	bound     map[piece]api.Src // by the Binds so far
}

// block writes a block.
func (f *function) block(number int, source api.Block) {
	b := &block{f, source, f.layout.Places[number], map[int]int{}, map[piece]api.Src{}}
	f.starts[number] = f.here()
	f.unknown()
	f.knowledge, f.passed = knowing(b.places[:b.Params]), 0
	if number == 0 && f.entries {
		f.passed = b.Params
	}
	for _, o := range b.Ops {
		b.operation(o)
	}
	b.terminator()
}

// operand returns the register of a value, which is loaded into a scratch register if it lies in a slot.
func (b *block) operand(v, scratch int) int {
	p := b.places[v]
	if p.Kind == api.PlaceReg {
		return p.N
	}
	b.write(loading(scratch, p.N))
	return scratch
}

// define lets an instruction write a value into its register, or into R15 and from there into its slot.
func (b *block) define(v int, write func(r int)) {
	p := b.places[v]
	if p.Kind == api.PlaceReg {
		write(p.N)
	} else {
		write(api.Scratch)
		b.write(storing(api.Scratch, p.N))
	}
	b.put(p, v)
}

func (b *block) operation(o api.Op) {
	switch o.Kind {
	case api.OpConst:
		b.constants[o.Dst] = o.N
		b.define(o.Dst, func(r int) { b.constant(r, o.N) })
	case api.OpCopy:
		b.duplicate(o)
	case api.OpLoad:
		b.element(o.A)
		b.define(o.Dst, func(r int) {
			b.write(api.Inst{Op: api.InstLoad, A: r, B: api.Scratch, Imm: b.layout.Objects[o.N]})
		})
	case api.OpStore:
		b.element(o.A)
		b.write(api.Inst{Op: api.InstStore, A: b.operand(o.B, api.Result), B: api.Scratch, Imm: b.layout.Objects[o.N]})
		b.unknown()
	case api.OpZero:
		b.zero(b.Objects[o.N])
		b.unknown()
	case api.OpPrint:
		b.write(api.Inst{Op: api.InstPrint, A: b.operand(o.A, api.Scratch)})
	case api.OpMark, api.OpAt:
		b.arrive(o)
	case api.OpBind:
		b.bound[piece{o.Ctx, o.Var, o.Piece}] = o.Src
	default:
		b.compute(o)
	}
}

// duplicate writes a Copy, which moves its operand even to where this lies already.
func (b *block) duplicate(o api.Op) {
	r, p := b.operand(o.A, api.Scratch), b.places[o.Dst]
	if p.Kind == api.PlaceReg {
		b.write(moving(p.N, r))
	} else {
		b.write(storing(r, p.N))
	}
	b.put(p, o.Dst)
}

// compute writes an operation with two operands.
func (b *block) compute(o api.Op) {
	x, y := b.operand(o.A, api.Scratch), b.operand(o.B, api.Result)
	op := operation.Operator(o.Kind) - api.ExprAdd + api.InstAdd
	b.define(o.Dst, func(r int) { b.write(api.Inst{Op: op, A: r, B: x, C: y}) })
}

// element brings the address of an element into R15, less the first slot of the object.
func (b *block) element(index int) {
	b.write(api.Inst{Op: api.InstAdd, A: api.Scratch, B: api.SP, C: b.operand(index, api.Scratch)})
}

func (b *block) zero(o api.ObjectPlace) {
	b.constant(api.Scratch, 0)
	for i := range o.Words {
		b.write(storing(api.Scratch, o.Slot+i))
	}
}

// arrive lets a statement begin or be continued.
func (b *block) arrive(o api.Op) {
	mark := o.Kind == api.OpMark
	b.row(api.Row{Ctx: o.Ctx, Stmt: o.N, Mark: mark})
	b.current = maps.Clone(b.bound)
	if mark && b.keep {
		b.write(api.Inst{Op: api.InstNop})
	}
}
