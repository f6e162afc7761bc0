package checker

import "debugger/api"

// copied returns a list of the copies of elements, in memory of its own.
func copied[T any](list []T, copyOf func(T) T) []T {
	var l []T
	for _, x := range list {
		l = append(l, copyOf(x))
	}
	return l
}

func copyProgram(p api.Program) api.Program {
	return api.Program{Records: copied(p.Records, copyRecord), Funcs: copied(p.Funcs, copyFunction)}
}

func copyRecord(r api.Record) api.Record {
	r.Fields = copied(r.Fields, copyName)
	return r
}

func copyFunction(f api.Func) api.Func {
	f.Params = copied(f.Params, copyName)
	f.Body = copied(f.Body, copyStatement)
	return f
}

func copyName(s string) string { return s }

func copyStatement(s api.Stmt) api.Stmt {
	s.Target = copied(s.Target, copyExpression)
	s.Args = copied(s.Args, copyExpression)
	s.Body = copied(s.Body, copyStatement)
	s.Else = copied(s.Else, copyStatement)
	return s
}

func copyExpression(x api.Expr) api.Expr {
	x.Args = copied(x.Args, copyExpression)
	return x
}
