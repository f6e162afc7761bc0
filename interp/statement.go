package interp

import "debugger/api"

// block executes statements in order. If one of them returns from the function, the others are left out, and its value is the result.
func (r *run) block(list []api.Stmt) (value int, returned bool) {
	for i := range list {
		if value, returned = r.statement(&list[i]); returned {
			return value, true
		}
	}
	return 0, false
}

// statement executes a statement and tells whether it returned from the function, and with which value.
func (r *run) statement(s *api.Stmt) (value int, returned bool) {
	r.begin(s.Id)
	switch s.Kind {
	case api.StmtDeclare:
		clear(r.now().words[s.Var])
	case api.StmtAssign:
		// The index of the target comes ahead of the value: it may throw first.
		word := r.word(s.Target[0])
		*word = r.value(s.Args[0])
	case api.StmtCall:
		result := r.call(s.Callee, r.values(s.Args))
		if len(s.Target) > 0 {
			*r.word(s.Target[0]) = result
		}
	case api.StmtIf:
		if r.value(s.Args[0]) != 0 {
			return r.block(s.Body)
		}
		return r.block(s.Else)
	case api.StmtWhile:
		return r.loop(s)
	case api.StmtReturn:
		if s.Func != "" {
			return r.call(s.Callee, r.values(s.Args)), true
		}
		return r.value(s.Args[0]), true
	case api.StmtThrow:
		panic(thrown(r.value(s.Args[0])))
	case api.StmtTry:
		return r.guard(s)
	case api.StmtPrint:
		r.output = append(r.output, r.value(s.Args[0]))
	case api.StmtEnd:
		return 0, true
	}
	return 0, false
}

// loop executes a StmtWhile whose first event has happened.
func (r *run) loop(s *api.Stmt) (value int, returned bool) {
	for r.value(s.Args[0]) != 0 {
		if value, returned = r.block(s.Body); returned {
			return value, true
		}
		r.begin(s.Id)
	}
	return 0, false
}

// guard executes a StmtTry: its Body, and Else if a value is thrown in it.
func (r *run) guard(s *api.Stmt) (value int, returned bool) {
	value, returned, caught := r.attempt(s.Body)
	if !caught {
		return value, returned
	}
	r.now().words[s.Var][0] = value
	return r.block(s.Else)
}

// attempt executes statements and catches what is thrown in them: that is the value then.
func (r *run) attempt(list []api.Stmt) (value int, returned, caught bool) {
	live := len(r.live)
	defer func() {
		switch end := recover().(type) {
		case nil:
		case thrown:
			r.live = r.live[:live]
			value, caught = int(end), true
		default:
			panic(end)
		}
	}()
	value, returned = r.block(list)
	return value, returned, false
}
