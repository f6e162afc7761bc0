// Package notation has intermediate code as texts, in which the tests of the layers write and show it.
//
// A text has a line for each part of a function's code. "func 2" is the number of the function (0 without it), "context 0 7 1" a context behind context 0, with its Parent, Stmt and Func, "object 0 3 4" an object with its Ctx, Var and Words. All other lines are blocks: the number of the parameters, the operations and the terminator, as in
//
//	(2) v2 = 7; v3 = v1 + v2; bind 0 to v3; mark 4; branch v3 1(v0 v2) 2()
//
// Operations are
//
//	v2 = 7; v2 = copy v1; v2 = v0 <= v1; v2 = load 0 v1; store 0 v1 v2; zero 0; print v1; mark 3; at 3 in 1;
//	bind 0 to nowhere; bind 0 to constant + 7; bind 0 in 1 to v2; bind 0.3 to v2 + -1; bind 0 to entry 1 + 2
//
// and terminators
//
//	jump 1(v0); branch v0 1(v0) 2(); call 3(v0 v1) 1(); call 3(v0 v1) 1() 2(v0); return v0; throw v0; tail 3(v0)
package notation

import "debugger/api"

// operators are the signs of the operations from OpAdd to OpNotEqual.
var operators = [...]string{"+", "-", "*", "/", "%", "&", "|", "^", "<", "<=", "==", "!="}

// none is an edge that leads nowhere.
func none() api.Edge { return api.Edge{Block: -1} }
