package emit

import (
	"debugger/alloc"
	"debugger/api"
)

// function is the machine code of a function as far as it is written.
type function struct {
	*unit
	api.FuncCode
	knowledge
	layout  api.Layout
	starts  []int             // the addresses of the blocks
	entries bool              // whether arguments are found by the registers at the entry
	passed  int               // how many values of the block are such arguments
	current map[piece]api.Src // the current bindings
	open    map[piece]int     // the ranges that go on
}

// add writes a function. With entries its arguments are found by the registers at its entry.
func (u *unit) add(c api.Code, entries bool) {
	f := &function{unit: u, layout: alloc.Allocate(c, u.keep), starts: make([]int, len(c.Blocks)), entries: entries, open: map[piece]int{}}
	u.frame = max(u.frame, f.layout.Size)
	f.begin(c)
	for number, b := range c.Blocks {
		if u.full() {
			return
		}
		f.block(number, b)
	}
	f.end()
	u.funcs = append(u.funcs, f.FuncCode)
}

// begin writes what is ahead of block 0.
func (f *function) begin(c api.Code) {
	f.Lo = f.here()
	f.Contexts = append(f.Contexts, c.Contexts...)
	for i, o := range c.Objects {
		f.Objects = append(f.Objects, api.ObjectPlace{Ctx: o.Ctx, Var: o.Var, Slot: f.layout.Objects[i], Words: o.Words})
	}
	f.unknown()
	f.step(0)
	if size := f.layout.Size; size > 0 {
		f.write(api.Inst{Op: api.InstAddImm, A: api.SP, B: api.SP, Imm: -size})
		f.step(size)
	}
}

// end ends what goes on up to the end of the function.
func (f *function) end() {
	f.Hi = f.here()
	f.endRanges()
	if last := len(f.Steps) - 1; f.Steps[last].Addr == f.Hi {
		f.Steps = f.Steps[:last]
	}
}

// leave gives the frame up, and lets the instruction be written that leaves the function.
func (f *function) leave(last func()) {
	size := f.layout.Size
	if size == 0 {
		last()
		return
	}
	f.write(api.Inst{Op: api.InstAddImm, A: api.SP, B: api.SP, Imm: size})
	f.unknown()
	f.step(0)
	last()
	f.step(size)
}

// write adds an instruction.
func (f *function) write(i api.Inst) {
	if f.full() {
		return
	}
	f.show()
	f.code = append(f.code, i)
	f.overwrite(i)
}

// writeTo adds an instruction with an address that is known when all is written.
func (f *function) writeTo(i api.Inst, address func() int) {
	u, at := f.unit, f.here()
	f.later = append(f.later, func() { u.code[at].Imm = address() })
	f.write(i)
}

// row adds a row at the address of the next instruction; it replaces one at the same address.
func (f *function) row(r api.Row) {
	r.Addr = f.here()
	if last := len(f.Rows) - 1; last >= 0 && f.Rows[last].Addr == r.Addr {
		f.Rows[last] = r
		return
	}
	f.Rows = append(f.Rows, r)
	f.allRows++
}

// position returns the row that is valid at the address of the next instruction.
func (f *function) position() api.Row { return f.Rows[len(f.Rows)-1] }

// unknown says that the position is not known from the next instruction on.
func (f *function) unknown() {
	f.row(api.Row{Stmt: -1})
	f.current = nil
}

// step says where the return address is from the next instruction on.
func (f *function) step(offset int) {
	f.Steps = append(f.Steps, api.Step{Addr: f.here(), Offset: offset})
}
