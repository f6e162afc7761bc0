package emit

import (
	"cmp"
	"fmt"
	"maps"
	"slices"
	"strconv"
	"strings"

	"debugger/alloc"
	"debugger/api"
	"debugger/assembly"
	"debugger/ir"
)

// The second implementation writes the instructions as texts, with names in the place of addresses, and notes at each what the chapter says of it. When all are written it goes through them again and again: for the addresses, for what lies where, and for each piece of a variable.

// spot is a place as a text: r1 is a register, s0 a slot.
type spot string

func spotOf(p api.Place) spot {
	if p.Kind == api.PlaceReg {
		return spot("r" + strconv.Itoa(p.N))
	}
	return spot("s" + strconv.Itoa(p.N))
}

func (s spot) number() int {
	n, _ := strconv.Atoi(string(s[1:]))
	return n
}

func (s spot) isSlot() bool { return s[0] == 's' }

// line is an instruction and what is known about it.
type line struct {
	text      string // an address is an @ with a name behind it
	f, block  int    // block is -1 ahead of block 0
	op        int    // the operation that it belongs to, or the number of these for the terminator
	current   map[piece]api.Src
	from, to  spot         // with these it is the last one of a transfer
	defined   int          // with a to, but no from, this value lies there behind it
	passes    *api.Site    // with the values of the arguments as the constants of places
	known     map[spot]int // ahead of it
	startWith map[spot]int // what is known ahead of it, whatever was before
	like      int          // or one more than the line behind which the same was known, if it is above 0
}

// reckoner writes a unit.
type reckoner struct {
	m       api.Module
	keep    bool
	layout  api.Layout
	lines   []line
	names   map[string]int // the addresses
	rows    [][]api.Row    // by function, also those that are replaced
	next    line           // what is already known of the next line
	bound   map[piece]api.Src
	deepest int
}

func (w *reckoner) say(format string, args ...any) {
	l := w.next
	l.text = fmt.Sprintf(format, args...)
	w.lines = append(w.lines, l)
	w.next = line{f: l.f, block: l.block, op: l.op, current: l.current}
}

func (w *reckoner) last() *line { return &w.lines[len(w.lines)-1] }

func (w *reckoner) name(format string, args ...any) {
	w.names[fmt.Sprintf(format, args...)] = len(w.lines)
}

func (w *reckoner) row(ctx, stmt int, mark bool) {
	f := w.next.f
	w.rows[f] = append(w.rows[f], api.Row{Addr: len(w.lines), Ctx: ctx, Stmt: stmt, Mark: mark})
	if stmt == -1 {
		w.next.current = nil
	}
}

func (w *reckoner) valid() api.Row { return w.rows[w.next.f][len(w.rows[w.next.f])-1] }

func (w *reckoner) place(v int) spot { return spotOf(w.layout.Places[w.next.block][v]) }

func (w *reckoner) transfer(from, to spot) {
	switch {
	case from == to:
		return
	case from.isSlot() && to.isSlot():
		w.say("load r15 r14 %d", from.number())
		w.say("store r15 r14 %d", to.number())
	case from.isSlot():
		w.say("load %s r14 %d", to, from.number())
	case to.isSlot():
		w.say("store %s r14 %d", from, to.number())
	default:
		w.say("move %s %s", to, from)
	}
	w.last().from, w.last().to = from, to
}

func (w *reckoner) constant(n int, r spot) {
	if n >= -2147483648 && n <= 2147483647 {
		w.say("const %s %d", r, n)
	} else {
		w.say("pool %s @constant:%d", r, n)
	}
}

func (w *reckoner) operand(v int, scratch spot) spot {
	if p := w.place(v); p.isSlot() {
		w.say("load %s r14 %d", scratch, p.number())
		return scratch
	}
	return w.place(v)
}

// destination returns the register of a value; stored has to follow behind the instruction.
func (w *reckoner) destination(v int) spot {
	if p := w.place(v); !p.isSlot() {
		return p
	}
	return "r15"
}

func (w *reckoner) stored(v int) {
	p := w.place(v)
	if p.isSlot() {
		w.say("store r15 r14 %d", p.number())
	}
	w.last().to, w.last().defined = p, v
}

// parallel writes transfers, each a pair of places.
func (w *reckoner) parallel(list [][2]spot) {
	remaining := [][2]spot{}
	for _, m := range list {
		if m[0] != m[1] {
			remaining = append(remaining, m)
		}
	}
	for len(remaining) > 0 {
		chosen := -1
		for i, m := range remaining {
			needed := false
			for j, other := range remaining {
				needed = needed || j != i && other[0] == m[1]
			}
			if !needed {
				chosen = i
				break
			}
		}
		if chosen >= 0 {
			w.transfer(remaining[chosen][0], remaining[chosen][1])
			remaining = append(remaining[:chosen:chosen], remaining[chosen+1:]...)
			continue
		}
		target := remaining[0][1]
		w.transfer(target, "r0")
		for i := range remaining {
			if remaining[i][0] == target {
				remaining[i][0] = "r0"
			}
		}
	}
}

// reckon returns what Emit should, and its lines.
func reckon(m api.Module, keep bool) (api.Unit, api.Errno, []line) {
	if e := ir.Check(m); e != api.OK {
		return api.Unit{}, e, nil
	}
	w := &reckoner{m: m, keep: keep, names: map[string]int{}, rows: make([][]api.Row, len(m.Funcs))}
	for f := range m.Funcs {
		w.function(f)
	}
	u := w.unit()
	rows, ranges := 0, 0
	for _, f := range u.Funcs {
		rows, ranges = rows+len(f.Rows), ranges+len(f.Ranges)
	}
	if len(u.Words) > 8000 || rows > 8000 || ranges > 8000 || w.deepest > 4000 {
		return api.Unit{}, api.ErrLimit, nil
	}
	return u, api.OK, w.lines
}

func (w *reckoner) function(f int) {
	c := w.m.Funcs[f]
	w.layout = alloc.Allocate(c, w.keep)
	w.deepest = max(w.deepest, w.layout.Size)
	w.next = line{f: f, block: -1}
	w.name("func:%d", f)
	w.row(0, -1, false)
	if w.layout.Size != 0 {
		w.say("addimm r14 r14 %d", -w.layout.Size)
	}
	for i, b := range c.Blocks {
		w.name("block:%d:%d", f, i)
		w.next = line{f: f, block: i, startWith: map[spot]int{}}
		w.row(0, -1, false)
		for v := range b.Params {
			w.next.startWith[w.place(v)] = v
		}
		w.bound = map[piece]api.Src{}
		for k, o := range b.Ops {
			w.next.op = k
			w.operation(c, o)
		}
		w.next.op = len(b.Ops)
		w.terminator(b)
	}
	w.name("end:%d", f)
}

func (w *reckoner) operation(c api.Code, o api.Op) {
	switch o.Kind {
	case api.OpConst:
		w.constant(o.N, w.destination(o.Dst))
		w.stored(o.Dst)
	case api.OpCopy:
		a := w.operand(o.A, "r15")
		if p := w.place(o.Dst); p.isSlot() {
			w.say("store %s r14 %d", a, p.number())
		} else {
			w.say("move %s %s", p, a)
		}
		w.last().to, w.last().defined = w.place(o.Dst), o.Dst
	case api.OpLoad:
		w.say("add r15 r14 %s", w.operand(o.A, "r15"))
		w.say("load %s r15 %d", w.destination(o.Dst), w.layout.Objects[o.N])
		w.stored(o.Dst)
	case api.OpStore:
		w.say("add r15 r14 %s", w.operand(o.A, "r15"))
		w.say("store %s r15 %d", w.operand(o.B, "r0"), w.layout.Objects[o.N])
		w.row(0, -1, false)
	case api.OpZero:
		w.say("const r15 0")
		for i := range c.Objects[o.N].Words {
			w.say("store r15 r14 %d", w.layout.Objects[o.N]+i)
		}
		w.row(0, -1, false)
	case api.OpPrint:
		w.say("print %s", w.operand(o.A, "r15"))
	case api.OpMark:
		w.row(o.Ctx, o.N, true)
		w.next.current = maps.Clone(w.bound)
		if w.keep {
			w.say("nop")
		}
	case api.OpAt:
		w.row(o.Ctx, o.N, false)
		w.next.current = maps.Clone(w.bound)
	case api.OpBind:
		w.bound[piece{o.Ctx, o.Var, o.Piece}] = o.Src
	default:
		a := w.operand(o.A, "r15")
		b := w.operand(o.B, "r0")
		name := strings.Fields("add sub mul div mod and or xor less lesseq equal notequal")[o.Kind-api.OpAdd]
		w.say("%s %s %s %s", name, w.destination(o.Dst), a, b)
		w.stored(o.Dst)
	}
}

// toBlock writes an edge of a Jump or Branch.
func (w *reckoner) toBlock(e api.Edge) {
	list := [][2]spot{}
	for i, v := range e.Args {
		list = append(list, [2]spot{w.place(v), spotOf(w.layout.Places[e.Block][i])})
	}
	w.parallel(list)
	w.say("jump @block:%d:%d", w.next.f, e.Block)
}

func (w *reckoner) toFunction(args []int) {
	list := [][2]spot{}
	for i, v := range args {
		list = append(list, [2]spot{w.place(v), spot("r" + strconv.Itoa(1+i))})
	}
	w.parallel(list)
}

// frameGone writes the AddImm at the end of a function.
func (w *reckoner) frameGone() {
	if w.layout.Size != 0 {
		w.say("addimm r14 r14 %d", w.layout.Size)
		w.row(0, -1, false)
	}
}

func (w *reckoner) terminator(b api.Block) {
	t, position := b.Term, w.valid()
	site := &api.Site{Callee: t.N, Ctx: position.Ctx, Stmt: position.Stmt, Tail: t.Kind == api.TermTail}
	for _, v := range t.Args {
		site.Args = append(site.Args, api.Place{Add: v})
	}
	switch t.Kind {
	case api.TermJump:
		w.toBlock(t.To[0])
	case api.TermBranch:
		part := fmt.Sprintf("part:%d", len(w.lines))
		w.say("zero %s @%s", w.operand(t.A, "r15"), part)
		behind := len(w.lines)
		w.toBlock(t.To[0])
		w.name("%s", part)
		w.next.like = behind
		w.toBlock(t.To[1])
	case api.TermCall:
		w.call(b, site)
	case api.TermReturn, api.TermThrow:
		w.transfer(w.place(t.A), "r0")
		w.say("const r13 %d", t.Kind-api.TermReturn)
		w.frameGone()
		w.say("return")
	case api.TermTail:
		w.toFunction(t.Args)
		w.frameGone()
		w.next.passes = site
		w.say("jump @func:%d", t.N)
	}
}

func (w *reckoner) call(b api.Block, site *api.Site) {
	t, saves := b.Term, map[int]spot{}
	for i, v := range alloc.Saved(b) {
		saves[v] = spot("s" + strconv.Itoa(w.layout.Slots+i))
		w.transfer(w.place(v), saves[v])
	}
	w.toFunction(t.Args)
	w.next.passes = site
	w.say("call @func:%d", t.N)
	part := fmt.Sprintf("part:%d", len(w.lines))
	w.say("zero r13 @%s", part)
	behind := len(w.lines)
	edge := func(e api.Edge) {
		w.say("move r1 r0")
		for i, v := range e.Args {
			w.transfer(saves[v], spotOf(w.layout.Places[e.Block][i+1]))
		}
		w.say("jump @block:%d:%d", w.next.f, e.Block)
	}
	position, current := w.valid(), w.next.current
	if t.To[1].Block >= 0 {
		edge(t.To[1])
	} else {
		w.frameGone()
		w.say("return")
		if w.layout.Size != 0 {
			w.row(position.Ctx, position.Stmt, false)
			w.next.current = current
		}
	}
	w.name("%s", part)
	w.next.like = behind
	edge(t.To[0])
}

// unit goes through the lines when all are written.
func (w *reckoner) unit() api.Unit {
	u := api.Unit{Code: len(w.lines)}
	pool := []int{}
	for i := range w.lines {
		l := &w.lines[i]
		if _, text, is := strings.Cut(l.text, "@constant:"); is {
			n, _ := strconv.Atoi(text)
			if !slices.Contains(pool, n) {
				pool = append(pool, n)
			}
			w.names["constant:"+text] = len(w.lines) + slices.Index(pool, n)
		}
	}
	for i := range w.lines {
		l := &w.lines[i]
		if head, name, is := strings.Cut(l.text, "@"); is {
			l.text = head + strconv.Itoa(w.names[name])
		}
		w.learn(i)
		words, ok := assembly.Words(l.text)
		if !ok || len(words) != 1 {
			panic(l.text)
		}
		u.Words = append(u.Words, words[0])
	}
	u.Words = append(u.Words, pool...)
	for f := range w.m.Funcs {
		u.Funcs = append(u.Funcs, w.described(f))
	}
	return u
}

// learn says what is known ahead of a line.
func (w *reckoner) learn(i int) {
	l := &w.lines[i]
	switch {
	case l.startWith != nil:
		l.known = maps.Clone(l.startWith)
	case l.like > 0:
		l.known = behind(w.lines[l.like-1])
	case i > 0 && l.block >= 0:
		l.known = behind(w.lines[i-1])
	}
}

// behind returns what is known behind a line.
func behind(l line) map[spot]int {
	known, parts := maps.Clone(l.known), append(strings.Fields(l.text), "")
	switch parts[0] {
	case "addimm":
		known = map[spot]int{}
	case "call":
		maps.DeleteFunc(known, func(s spot, _ int) bool { return !s.isSlot() })
	case "store":
		if parts[2] == "r14" {
			delete(known, spot("s"+parts[3]))
		}
	case "nop", "jump", "zero", "return", "print":
	default:
		delete(known, spot(parts[1]))
	}
	if l.to == "" || l.to == "r0" {
		return known
	}
	if l.from == "" {
		known[l.to] = l.defined
	} else if v, is := l.known[l.from]; is {
		known[l.to] = v
	}
	return known
}

// described returns what is said of a function.
func (w *reckoner) described(f int) api.FuncCode {
	c := w.m.Funcs[f]
	r := api.FuncCode{Lo: w.names[fmt.Sprintf("func:%d", f)], Hi: w.names[fmt.Sprintf("end:%d", f)], Contexts: c.Contexts}
	for i, row := range w.rows[f] {
		if i+1 == len(w.rows[f]) || w.rows[f][i+1].Addr != row.Addr {
			r.Rows = append(r.Rows, row)
		}
	}
	l := alloc.Allocate(c, w.keep)
	for i, o := range c.Objects {
		r.Objects = append(r.Objects, api.ObjectPlace{Ctx: o.Ctx, Var: o.Var, Slot: l.Objects[i], Words: o.Words})
	}
	r.Steps = []api.Step{{Addr: r.Lo}}
	for addr := r.Lo; addr < r.Hi; addr++ {
		switch x := w.lines[addr]; {
		case x.passes != nil:
			r.Sites = append(r.Sites, w.site(addr))
		case !strings.HasPrefix(x.text, "addimm"):
		case addr == r.Lo:
			r.Steps = append(r.Steps, api.Step{Addr: addr + 1, Offset: l.Size})
		default:
			r.Steps = append(r.Steps, api.Step{Addr: addr + 1})
			if addr+2 != r.Hi {
				r.Steps = append(r.Steps, api.Step{Addr: addr + 2, Offset: l.Size})
			}
		}
	}
	r.Ranges = w.ranges(r.Lo, r.Hi)
	return r
}

// site returns the site of a line.
func (w *reckoner) site(addr int) api.Site {
	l := w.lines[addr]
	s := *l.passes
	s.Addr, s.Args = addr, nil
	for _, a := range l.passes.Args {
		p := api.Place{}
		if slots := w.slots(l, a.Add); !s.Tail && len(slots) > 0 {
			p = api.Place{Kind: api.PlaceSlot, N: slots[0]}
		}
		for _, o := range w.m.Funcs[l.f].Blocks[l.block].Ops {
			if o.Kind == api.OpConst && o.Dst == a.Add {
				p = api.Place{Kind: api.PlaceConst, Add: o.N}
			}
		}
		s.Args = append(s.Args, p)
	}
	return s
}

// slots returns the slots that hold a value ahead of a line.
func (w *reckoner) slots(l line, v int) []int { return numbers(l, v, true) }

func numbers(l line, v int, slots bool) []int {
	list := []int{}
	for s, held := range l.known {
		if held == v && s.isSlot() == slots {
			list = append(list, s.number())
		}
	}
	slices.Sort(list)
	return list
}

// places returns where a binding is found ahead of a line.
func (w *reckoner) places(l line, s api.Src) []api.Place {
	list := []api.Place{}
	tailed := false
	for _, c := range w.m.Funcs {
		for _, b := range c.Blocks {
			tailed = tailed || b.Term.Kind == api.TermTail && b.Term.N == l.f
		}
	}
	entry := func(v int) {
		if !w.keep && !tailed {
			list = append(list, api.Place{Kind: api.PlaceEntry, N: 1 + v, Add: s.Add})
		}
	}
	switch s.Kind {
	case api.SrcConstant:
		list = append(list, api.Place{Kind: api.PlaceConst, Add: s.Add})
	case api.SrcEntry:
		entry(s.Val)
	case api.SrcValue:
		for _, n := range numbers(l, s.Val, true) {
			list = append(list, api.Place{Kind: api.PlaceSlot, N: n, Add: s.Add})
		}
		for _, n := range numbers(l, s.Val, false) {
			list = append(list, api.Place{Kind: api.PlaceReg, N: n, Add: s.Add})
		}
		if l.block == 0 && s.Val < w.m.Funcs[l.f].Params {
			entry(s.Val)
		}
	}
	return list
}

// ranges goes through the addresses of a function for each piece.
func (w *reckoner) ranges(lo, hi int) []api.Range {
	pieces := map[piece]bool{}
	for _, l := range w.lines[lo:hi] {
		for p := range l.current {
			pieces[p] = true
		}
	}
	list := []api.Range{}
	for p := range pieces {
		var ahead []api.Place
		for addr := lo; addr < hi; addr++ {
			var places []api.Place
			if s, is := w.lines[addr].current[p]; is {
				places = w.places(w.lines[addr], s)
			}
			if len(places) > 0 && slices.Equal(places, ahead) {
				list[len(list)-1].Hi = addr + 1
			} else if len(places) > 0 {
				list = append(list, api.Range{Ctx: p.ctx, Var: p.variable, Piece: p.number, Lo: addr, Hi: addr + 1, Places: places})
			}
			ahead = places
		}
	}
	slices.SortFunc(list, func(a, b api.Range) int {
		return slices.CompareFunc([]int{a.Lo, a.Ctx, a.Var, a.Piece}, []int{b.Lo, b.Ctx, b.Var, b.Piece}, cmp.Compare[int])
	})
	return list
}
