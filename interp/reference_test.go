package interp

import (
	"slices"

	"debugger/api"
)

// machine runs a program in another way than Trace: as steps over a stack of blocks, without Go's own stack and panics. It finds the variables by their names, each in the block that declares it, and reckons with big numbers.
type machine struct {
	p      api.Program
	blocks []block
	events []api.Event
	out    api.Outcome
	done   bool
}

// block is a list of statements that is being executed.
type block struct {
	list   []api.Stmt
	next   int
	vars   []binding
	owner  *api.Stmt // the StmtWhile that is executed again behind the block, or the StmtTry whose Body it is
	callee bool      // the block of a function, with the number of the function, the statement that it executes, and the one that called it
	f      int
	stmt   int
	caller *api.Stmt
}

type binding struct {
	name   string
	number int
	words  []int
	fields []string
}

// reckon returns what Trace should with the window from 0 on.
func reckon(s api.Source, f int, args []int, steps int) ([]api.Event, api.Outcome) {
	m := &machine{p: s.Program}
	m.enter(f, args, nil)
	for !m.done {
		top := &m.blocks[len(m.blocks)-1]
		if top.next < len(top.list) {
			top.next++
			m.step(&top.list[top.next-1], steps)
			continue
		}
		m.blocks = m.blocks[:len(m.blocks)-1]
		if top.owner != nil && top.owner.Kind == api.StmtWhile {
			m.push(block{list: []api.Stmt{*top.owner}})
		}
	}
	return m.events, m.out
}

func (m *machine) push(b block) { m.blocks = append(m.blocks, b) }

func (m *machine) end(o api.Outcome) {
	o.Output = m.out.Output
	m.out, m.done = o, true
}

// function returns the block of the innermost activation's function.
func (m *machine) function() *block {
	for i := range slices.Backward(m.blocks) {
		if m.blocks[i].callee {
			return &m.blocks[i]
		}
	}
	panic("no function")
}

func (m *machine) enter(f int, args []int, caller *api.Stmt) {
	live := 0
	for _, b := range m.blocks {
		live += number(b.callee)
	}
	if live == 20 {
		m.end(api.Outcome{Err: api.ErrLimit})
		return
	}
	b := block{list: m.p.Funcs[f].Body, callee: true, f: f, caller: caller}
	for i, name := range m.p.Funcs[f].Params {
		b.vars = append(b.vars, binding{name: name, number: i, words: []int{args[i]}})
	}
	m.push(b)
}

func (m *machine) event() api.Event {
	e := api.Event{}
	frame := api.Frame{}
	for _, b := range slices.Backward(m.blocks) {
		for _, v := range b.vars {
			frame.Vars = append(frame.Vars, api.Shown{Var: v.number, Words: slices.Clone(v.words), Known: slices.Repeat([]bool{true}, len(v.words))})
		}
		if b.callee {
			frame.Func, frame.Stmt = b.f, b.stmt
			slices.SortFunc(frame.Vars, func(a, b api.Shown) int { return a.Var - b.Var })
			e.Frames = append(e.Frames, frame)
			frame = api.Frame{}
		}
	}
	return e
}

func (m *machine) step(s *api.Stmt, steps int) {
	if len(m.events) == steps {
		m.end(api.Outcome{Err: api.ErrFuel})
		return
	}
	m.function().stmt = s.Id
	m.events = append(m.events, m.event())
	if s.Kind == api.StmtAssign && s.Target[0].Op == api.ExprElement {
		if index, bad := m.value(s.Target[0].Args[0]); bad != 0 || index < 0 || index >= len(m.find(s.Target[0].Name).words) {
			m.throw(max(bad, 2*number(bad == 0)))
			return
		}
	}
	values := []int{}
	for _, x := range s.Args {
		v, bad := m.value(x)
		if bad != 0 {
			m.throw(bad)
			return
		}
		values = append(values, v)
	}
	m.finish(s, values)
}

// finish does what a statement does once its expressions are evaluated.
func (m *machine) finish(s *api.Stmt, values []int) {
	top := &m.blocks[len(m.blocks)-1]
	switch {
	case s.Func != "":
		m.enter(slices.IndexFunc(m.p.Funcs, func(f api.Func) bool { return f.Name == s.Func }), values, s)
	case s.Kind == api.StmtDeclare:
		b := binding{name: s.Name, number: s.Var, fields: m.fields(s.Type)}
		b.words = make([]int, max(1, s.Len, len(b.fields)))
		top.vars = append(top.vars, b)
	case s.Kind == api.StmtAssign:
		m.assign(s.Target[0], values[0])
	case s.Kind == api.StmtIf && values[0] != 0:
		m.push(block{list: s.Body})
	case s.Kind == api.StmtIf:
		m.push(block{list: s.Else})
	case s.Kind == api.StmtWhile && values[0] != 0:
		m.push(block{list: s.Body, owner: s})
	case s.Kind == api.StmtReturn:
		m.leave(values[0])
	case s.Kind == api.StmtEnd:
		m.leave(0)
	case s.Kind == api.StmtThrow:
		m.throw(values[0])
	case s.Kind == api.StmtTry:
		m.push(block{list: s.Body, owner: s})
	case s.Kind == api.StmtPrint:
		m.out.Output = append(m.out.Output, values[0])
	}
}

// leave ends the innermost activation, and those whose StmtReturn called it.
func (m *machine) leave(value int) {
	for {
		for !m.blocks[len(m.blocks)-1].callee {
			m.blocks = m.blocks[:len(m.blocks)-1]
		}
		caller := m.blocks[len(m.blocks)-1].caller
		m.blocks = m.blocks[:len(m.blocks)-1]
		if caller == nil {
			m.end(api.Outcome{Value: value})
			return
		}
		if caller.Kind == api.StmtCall {
			if len(caller.Target) > 0 {
				m.assign(caller.Target[0], value)
			}
			return
		}
	}
}

func (m *machine) throw(value int) {
	for len(m.blocks) > 0 {
		top := m.blocks[len(m.blocks)-1]
		m.blocks = m.blocks[:len(m.blocks)-1]
		if top.owner != nil && top.owner.Kind == api.StmtTry {
			m.push(block{list: top.owner.Else, vars: []binding{{name: top.owner.Name, number: top.owner.Var, words: []int{value}}}})
			return
		}
	}
	m.end(api.Outcome{Thrown: true, Value: value})
}

// find returns the variable that has this name here.
func (m *machine) find(name string) binding {
	for _, b := range slices.Backward(m.blocks) {
		for _, v := range b.vars {
			if v.name == name {
				return v
			}
		}
		if b.callee {
			break
		}
	}
	panic("no variable " + name)
}

// fields returns the names of a record's fields, or none.
func (m *machine) fields(record string) []string {
	for _, r := range m.p.Records {
		if r.Name == record {
			return r.Fields
		}
	}
	return nil
}

// assign changes the word of a target whose index is right.
func (m *machine) assign(x api.Expr, value int) {
	i, _ := m.place(x)
	m.find(x.Name).words[i] = value
}

// place returns which word of its variable an expression is.
func (m *machine) place(x api.Expr) (i, bad int) {
	switch x.Op {
	case api.ExprElement:
		i, bad = m.value(x.Args[0])
		if bad == 0 && (i < 0 || i >= len(m.find(x.Name).words)) {
			return 0, 2
		}
	case api.ExprField:
		return slices.Index(m.find(x.Name).fields, x.Field), 0
	}
	return i, bad
}

// value returns the value of an expression, and what it throws, or 0.
func (m *machine) value(x api.Expr) (value, bad int) {
	if x.Op == api.ExprLiteral {
		return x.Number, 0
	}
	if x.Op <= api.ExprElement {
		i, bad := m.place(x)
		if bad != 0 {
			return 0, bad
		}
		return m.find(x.Name).words[i], 0
	}
	a, bad := m.value(x.Args[0])
	if bad != 0 {
		return 0, bad
	}
	if x.Op == api.ExprNegate {
		value, _ = exact("-", 0, a)
		return value, 0
	}
	if x.Op == api.ExprNot {
		return number(a == 0), 0
	}
	b, bad := m.value(x.Args[1])
	if bad != 0 {
		return 0, bad
	}
	value, throws := exact(signs[x.Op-api.ExprAdd], a, b)
	return value, number(throws)
}
