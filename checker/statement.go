package checker

import "debugger/api"

// block checks the statements of a block, behind which the variables that they declare are out of scope.
func (c *checker) block(list []api.Stmt) api.Errno {
	first := len(c.vars)
	if e := each(list, c.statement); e != api.OK {
		return e
	}
	c.leave(first)
	return api.OK
}

func (c *checker) statement(s *api.Stmt) api.Errno {
	c.line = s.Line
	s.Id = len(c.source.Stmts)
	if s.Id >= api.MaxStmts {
		return api.ErrLimit
	}
	f := len(c.source.Vars) // which has the variables of the functions ahead
	c.source.Stmts = append(c.source.Stmts, api.StmtInfo{Func: f, Kind: s.Kind, Line: s.Line})
	if e := c.head(s); e != api.OK {
		return e
	}
	return c.blocks(s)
}

// head checks a statement without its blocks.
func (c *checker) head(s *api.Stmt) api.Errno {
	switch {
	case s.Kind == api.StmtDeclare:
		return c.declaration(s)
	case s.Kind == api.StmtCall, s.Kind == api.StmtReturn && s.Func != "":
		return c.call(s)
	}
	if e := each(s.Target, c.expression); e != api.OK {
		return e
	}
	return each(s.Args, c.expression)
}

func (c *checker) declaration(s *api.Stmt) (e api.Errno) {
	v := scalar(s.Name)
	switch {
	case s.Type != "":
		r, ok := c.records[s.Type]
		if !ok {
			return api.ErrName
		}
		v.Kind, v.Record, v.Words = api.VarRecord, r, len(c.source.Program.Records[r].Fields)
	case s.Len != 0:
		v.Kind, v.Words = api.VarArray, s.Len
	}
	s.Var, e = c.declare(v)
	return e
}

func (c *checker) call(s *api.Stmt) api.Errno {
	if e := each(s.Target, callTarget); e != api.OK {
		return e
	}
	if e := each(s.Target, c.expression); e != api.OK {
		return e
	}
	f, ok := c.funcs[s.Func]
	if !ok {
		return api.ErrName
	}
	if len(s.Args) != len(c.source.Program.Funcs[f].Params) {
		return api.ErrCount
	}
	s.Callee = f
	return each(s.Args, c.expression)
}

// callTarget checks that the target of a call is no part of a variable.
func callTarget(x *api.Expr) api.Errno {
	if x.Op == api.ExprField || x.Op == api.ExprElement {
		return api.ErrType
	}
	return api.OK
}

func (c *checker) blocks(s *api.Stmt) api.Errno {
	if e := c.block(s.Body); e != api.OK {
		return e
	}
	if s.Kind == api.StmtTry {
		return c.catch(s)
	}
	return c.block(s.Else)
}

// catch checks the second block of a try statement, in which alone its variable is in scope.
func (c *checker) catch(s *api.Stmt) (e api.Errno) {
	c.line = s.Line
	if s.Var, e = c.declare(scalar(s.Name)); e != api.OK {
		return e
	}
	if e = c.block(s.Else); e != api.OK {
		return e
	}
	c.leave(s.Var)
	return api.OK
}

func scalar(name string) api.VarInfo {
	return api.VarInfo{Name: name, Kind: api.VarScalar, Record: -1, Words: 1}
}

// declare brings a variable into scope, from the next statement on, and returns its number.
func (c *checker) declare(v api.VarInfo) (int, api.Errno) {
	if _, ok := c.scope[v.Name]; ok {
		return 0, api.ErrDuplicate
	}
	next := len(c.vars)
	if next == api.MaxVars {
		return 0, api.ErrLimit
	}
	v.From = len(c.source.Stmts)
	c.vars = append(c.vars, v)
	c.scope[v.Name] = next
	return next, api.OK
}

// leave ends the scope of all variables from a number on, with the latest statement. Those of inner blocks are out of scope already.
func (c *checker) leave(first int) {
	for name, v := range c.scope {
		if v >= first {
			c.vars[v].To = len(c.source.Stmts) - 1
			delete(c.scope, name)
		}
	}
}
