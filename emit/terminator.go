package emit

import (
	"debugger/alloc"
	"debugger/api"
)

func (b *block) terminator() {
	switch t := b.Term; t.Kind {
	case api.TermJump:
		b.follow(t.To[0])
	case api.TermBranch:
		b.branch(t)
	case api.TermCall:
		b.call(t)
	case api.TermReturn:
		b.finish(t.A, 0)
	case api.TermThrow:
		b.finish(t.A, 1)
	case api.TermTail:
		b.tail(t)
	}
}

// jump writes the jump to a block.
func (b *block) jump(number int) {
	starts := b.starts
	b.writeTo(api.Inst{Op: api.InstJump}, func() int { return starts[number] })
}

// follow writes an edge whose arguments are all the parameters of the block.
func (b *block) follow(e api.Edge) {
	moves := make([]move, len(e.Args))
	for i, v := range e.Args {
		moves[i] = move{b.places[v], b.layout.Places[e.Block][i]}
	}
	b.parallel(moves)
	b.jump(e.Block)
}

func (b *block) branch(t api.Term) {
	second := 0
	b.writeTo(api.Inst{Op: api.InstJumpZero, A: b.operand(t.A, api.Scratch)}, func() int { return second })
	known := b.copied()
	b.follow(t.To[0])
	second, b.knowledge = b.here(), known
	b.follow(t.To[1])
}

// pass brings arguments into their registers.
func (b *block) pass(args []int) {
	moves := make([]move, len(args))
	for i, v := range args {
		moves[i] = move{b.places[v], register(api.FirstArg + i)}
	}
	b.parallel(moves)
}

// entry returns how the address of a function becomes known.
func (b *block) entry(f int) func() int {
	u := b.unit
	return func() int { return u.funcs[f].Lo }
}

func (b *block) call(t api.Term) {
	position, saved := b.position(), map[int]api.Place{}
	for i, v := range alloc.Saved(b.Block) {
		saved[v] = slot(b.layout.Slots + i)
		b.transfer(b.places[v], saved[v])
	}
	b.pass(t.Args)
	b.site(position)
	b.writeTo(api.Inst{Op: api.InstCall}, b.entry(t.N))
	normal := 0
	b.writeTo(api.Inst{Op: api.InstJumpZero, A: api.Flag}, func() int { return normal })
	known := b.copied()
	if t.To[1].Block >= 0 {
		b.resume(t.To[1], saved)
		normal = b.here()
	} else {
		normal = b.throwOn(position)
	}
	b.knowledge = known
	b.resume(t.To[0], saved)
}

// throwOn leaves the function with what its callee has thrown. It returns the address behind, from which on the position is again what it was.
func (b *block) throwOn(position api.Row) int {
	current := b.current
	b.leave(func() { b.write(api.Inst{Op: api.InstReturn}) })
	if b.layout.Size > 0 {
		b.row(api.Row{Ctx: position.Ctx, Stmt: position.Stmt})
		b.current = current
	}
	return b.here()
}

// resume writes an edge of a call: the first parameter is what the call left in R0, and the others come from the save slots.
func (b *block) resume(e api.Edge, saved map[int]api.Place) {
	b.write(moving(api.FirstArg, api.Result))
	for i, v := range e.Args {
		b.transfer(saved[v], b.layout.Places[e.Block][i+1])
	}
	b.jump(e.Block)
}

// finish returns or throws a value.
func (b *block) finish(v, thrown int) {
	b.transfer(b.places[v], register(api.Result))
	b.constant(api.Flag, thrown)
	b.leave(func() { b.write(api.Inst{Op: api.InstReturn}) })
}

func (b *block) tail(t api.Term) {
	position := b.position()
	b.pass(t.Args)
	b.leave(func() {
		b.site(position)
		b.writeTo(api.Inst{Op: api.InstJump}, b.entry(t.N))
	})
}

// site adds the site of the call whose instruction is the next one.
func (b *block) site(position api.Row) {
	t := b.Term
	s := api.Site{Addr: b.here(), Callee: t.N, Ctx: position.Ctx, Stmt: position.Stmt, Tail: t.Kind == api.TermTail}
	for _, v := range t.Args {
		s.Args = append(s.Args, b.lasting(v))
	}
	b.Sites = append(b.Sites, s)
}

// lasting returns where an argument is found while the called function runs, or a zero place.
func (b *block) lasting(v int) api.Place {
	if n, is := b.constants[v]; is {
		return api.Place{Kind: api.PlaceConst, Add: n}
	}
	if places := b.lies[v]; b.Term.Kind == api.TermCall && len(places) > 0 && places[0].Kind == api.PlaceSlot {
		return places[0]
	}
	return api.Place{}
}
