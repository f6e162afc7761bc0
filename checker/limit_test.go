package checker

import (
	"strings"
	"testing"

	"debugger/api"
)

// calls returns the text of so many statements.
func calls(n int) string { return strings.Repeat("f(); ", n) }

func TestNumbersOfStatements(t *testing.T) {
	for text, want := range map[string]int{
		"func f() { " + calls(api.MaxStmts-1) + "}":                                                api.MaxStmts,
		"func f() { } func g() { " + calls(api.MaxStmts-2) + "}":                                   api.MaxStmts,
		"func f() { " + calls(api.MaxStmts-2) + "} func g() { }":                                   api.MaxStmts,
		"func f() { while 1 { " + calls(api.MaxStmts-2) + "} }":                                    api.MaxStmts,
		"func f() { if 1 { " + calls(90) + "} else { " + calls(api.MaxStmts-92) + "} }":            api.MaxStmts,
		"func f() { try { " + calls(90) + "} catch e { " + calls(api.MaxStmts-93) + "} print 1; }": api.MaxStmts,
		"func f() { " + calls(api.MaxStmts-2) + "}":                                                api.MaxStmts - 1,
	} {
		s := accept(t, "P4.2", text)
		if len(s.Stmts) != want {
			t.Errorf("P4.1: %.60q has %d statements, not %d", text, len(s.Stmts), want)
		}
	}
}

// The first statement behind the limit is one of each kind, and StmtEnd.
func TestTooManyStatements(t *testing.T) {
	full := "func f() { " + calls(api.MaxStmts-1)
	for _, text := range []string{
		full + "f(); @}",
		full + "} func g() { @}",
		full + "} func g() { @f(); }",
		full + "} func g() { @f(); } func h(a, a) { }",
		"func f() { } func g() { } func h() { " + calls(api.MaxStmts-2) + "@}",
	} {
		refuseAt(t, "P4.2", text, api.ErrLimit)
	}
	for _, s := range []string{
		"var x: int;", "var f: T;", "x = 1;", "x.a = 1;", "x[1] = 1;", "x();", "x = f();", "r.a = f();", "f(x);", "if x { print x; }", "while x { print x; }", "return x;", "return f(x);", "throw x;", "try { x = 1; } catch e { }", "print x;",
	} {
		refuseAt(t, "P4.2", full+"f(); @"+s+" }", api.ErrLimit)
	}
	// Up to the limit the errors of the statements themselves count.
	refuseAt(t, "P4.2", "func f() { "+calls(api.MaxStmts-1)+"@x = 1; f(); f(); }", api.ErrName)
	refuseAt(t, "P4.2", "func f() { "+calls(api.MaxStmts-2)+"@f(1); f(); f(); }", api.ErrCount)
}

// A statement within others counts as well, and those in Body ahead of those in Else.
func TestTooManyStatementsInBlocks(t *testing.T) {
	for _, text := range []string{
		"func f() { while 1 { " + calls(api.MaxStmts-1) + "@f(); x = 1; } }",
		"func f() { while 1 { " + calls(api.MaxStmts-2) + "f(); } @}",
		"func f() { while 1 { " + calls(api.MaxStmts-1) + "} @x = 1; }",
		"func f() { if 1 { " + calls(90) + "} else { " + calls(api.MaxStmts-91) + "@f(); } }",
		"func f() { if 1 { " + calls(api.MaxStmts-1) + "@f(); } else { x = 1; } }",
		"func f() { try { " + calls(api.MaxStmts-1) + "} catch e { @x = 1; } }",
		"func f() { try { " + calls(90) + "} catch e { " + calls(api.MaxStmts-91) + "@if 1 { } } }",
		"func f() { if 1 { if 1 { if 1 { " + calls(api.MaxStmts-3) + "} @f(); } } }",
	} {
		refuseAt(t, "P4.2", text, api.ErrLimit)
	}
	// The catch variable itself is declared behind Body, whose last statement is the last one that there may be.
	refuseAt(t, "P4.2", "func f(a) { @try { "+strings.Repeat("f(1); ", api.MaxStmts-1)+"} catch a { } }", api.ErrDuplicate)
}

func TestNumbersOfVariables(t *testing.T) {
	most := repeated("var x#: int; ", api.MaxVars)
	for _, text := range []string{
		"func f() { " + most + "}",
		"func f(a, b, c, d) { " + repeated("var x#: int[8]; ", api.MaxVars-4) + "}",
		"func f(a) { " + repeated("try { } catch e { } ", api.MaxVars-1) + "}",
		"func f() { " + repeated("if 1 { var x: int; } ", api.MaxVars) + "}",
		"func f() { " + repeated("try { var x: int; } catch x { var y: int; } ", api.MaxVars/3) + "}",
		"func f() { " + most + "} func g(a) { " + repeated("var x#: int; ", api.MaxVars-1) + "}",
		"record R { a } func f() { " + repeated("var x#: R; ", api.MaxVars) + "}",
	} {
		s := accept(t, "P4.2", text)
		if n := len(s.Vars[len(s.Vars)-1]); n != api.MaxVars {
			t.Errorf("P4.1: the last function of %.60q has %d variables, not %d", text, n, api.MaxVars)
		}
	}
}

func TestTooManyVariables(t *testing.T) {
	most := repeated("var x#: int; ", api.MaxVars)
	almost := repeated("var x#: int; ", api.MaxVars-1)
	for text, want := range map[string]api.Errno{
		"func f() { " + most + "@var y: int; x = 1; }":                                                 api.ErrLimit,
		"func f() { " + most + "@var y: int[3]; }":                                                     api.ErrLimit,
		"record R { a } func f() { " + most + "@var y: R; }":                                           api.ErrLimit,
		"func f(a) { " + almost + "@var y: int; }":                                                     api.ErrLimit,
		"func f(a, b, c, d) { " + repeated("var x#: int; ", api.MaxVars-4) + "if a { @var y: int; } }": api.ErrLimit,
		"func f() { " + repeated("if 1 { var x: int; } ", api.MaxVars) + "@var x: int; }":              api.ErrLimit,
		"func f() { " + repeated("if 1 { var x: int; } ", api.MaxVars) + "while 1 { @var x: int; } }":  api.ErrLimit,
		"func f() { " + most + "@try { print 1; while 1 { print 2; } } catch e { x = 1; } }":           api.ErrLimit,
		"func f() { " + almost + "@try { var y: int; print y; } catch e { } }":                         api.ErrLimit,
		"func f() { " + almost + "try { } catch e { @var y: int; } }":                                  api.ErrLimit,
		"func f() { " + repeated("try { } catch e { } ", api.MaxVars) + "@try { } catch e { } }":       api.ErrLimit,
		"func f() { " + most + "} func g(a) { " + almost + "@var y: int; }":                            api.ErrLimit,
		// ErrName and ErrDuplicate come ahead of ErrLimit.
		"func f() { " + most + "@var y: T; }":                        api.ErrName,
		"func f() { " + most + "@var x0: T; }":                       api.ErrName,
		"func f() { " + most + "@var x0: int; }":                     api.ErrDuplicate,
		"func f() { " + most + "@var x23: int; var y: int; }":        api.ErrDuplicate,
		"func f() { " + most + "@try { } catch x1 { var y: int; } }": api.ErrDuplicate,
		"func f() { " + most + "try { @print y; } catch y { } }":     api.ErrName,
	} {
		refuseAt(t, "P4.2", text, want)
	}
}

// A variable that is out of scope counts, one of another function does not.
func TestVariablesOfAllFunctions(t *testing.T) {
	text := ""
	for range api.MaxFuncs {
		text += "func f" + strings.Repeat("_", strings.Count(text, "func")) + "(a) { " + repeated("var x#:int;", 17) + "}"
	}
	s := accept(t, "P4.2", text)
	for f, vars := range s.Vars {
		if len(vars) != 18 {
			t.Errorf("P4.1: the function %d has %d variables", f, len(vars))
		}
	}
}
