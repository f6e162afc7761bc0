package checker

import (
	"strings"
	"testing"

	"debugger/api"
)

func TestScopes(t *testing.T) {
	for text, want := range map[string]string{
		"func f(a) { }":                      "a 0-0",
		"func f(a, b) { print a; print b; }": "a 0-2, b 0-2",
		"func f(a) { while a { if a { print a; } else { print 1; } } }": "a 0-4",
		// In the middle of the function's block, ahead of all, and at its end.
		"func f() { print 1; var x: int; print x; }": "x 2-3",
		"func f() { var x: int; print x; }":          "x 1-2",
		"func f() { print 1; var x: int; }":          "x 2-2",
		"func f() { var x: int; }":                   "x 1-1",
		"func f() { var x: int; var y: int[2]; }":    "x 1-2, y 2-2",
		// In the middle and at the end of other blocks.
		"func f() { if 1 { var x: int; print x; } print 1; }":                                     "x 2-2",
		"func f() { if 1 { print 1; var x: int; print x; print x; } print 1; }":                   "x 3-4",
		"func f() { if 1 { var x: int; } print 1; }":                                              "x 2-1",
		"func f() { if 1 { print 1; var x: int; } }":                                              "x 3-2",
		"func f() { if 1 { var x: int; var y: int; } else { var x: int; var y: int; print x; } }": "x 2-2, y 3-2, x 4-5, y 5-5",
		"func f() { while 1 { var x: int; } }":                                                    "x 2-1",
		"func f() { while 1 { var x: int; x = 1; print x; } print 1; }":                           "x 2-3",
		"func f() { try { var x: int; } catch e { var y: int; } }":                                "x 2-1, e 2-2, y 3-2",
		"func f() { try { var x: int; print x; } catch e { var y: int; print e; } }":              "x 2-2, e 3-4, y 4-4",
		// Statements within the last statement of a block.
		"func f() { while 1 { var x: int; if 1 { print 1; } else { print 2; print 3; } } print 4; }":            "x 2-5",
		"func f() { if 1 { var x: int; try { print 1; } catch e { while 1 { print 2; } } } else { print 3; } }": "x 2-5, e 4-5",
		"func f() { if 1 { var x: int; if 1 { var y: int; while 1 { var z: int; print 1; } } } print 2; }":      "x 2-6, y 4-6, z 6-6",
		"func f() { if 1 { var x: int; if 1 { var y: int; if 1 { var z: int; } } } print 2; }":                  "x 2-5, y 4-5, z 6-5",
		// Blocks ahead of and behind a declaration, and without statements.
		"func f() { if 1 { print 1; } else { print 1; } var x: int; if 1 { print 1; } else { print 1; } }": "x 4-7",
		"func f() { if 1 { if 1 { } var x: int; if 1 { } } print 1; }":                                     "x 3-3",
		// The catch variable.
		"func f() { try { } catch e { } }":                                                                     "e 1-0",
		"func f() { print 1; try { } catch e { } print 1; }":                                                   "e 2-1",
		"func f() { try { print 1; print 2; } catch e { } print 3; }":                                          "e 3-2",
		"func f() { try { print 1; } catch e { print 2; print e; } print 3; }":                                 "e 2-3",
		"func f() { try { } catch e { print e; } }":                                                            "e 1-1",
		"func f() { try { } catch e { while e { print e; } } print 3; }":                                       "e 1-2",
		"func f() { while 1 { try { if 1 { print 1; } } catch e { } print 1; } }":                              "e 4-3",
		"func f() { try { try { } catch a { } } catch b { } }":                                                 "a 2-1, b 2-1",
		"func f() { try { try { } catch a { print a; } } catch b { print b; } }":                               "a 2-2, b 3-3",
		"func f() { try { } catch a { try { } catch b { print a; } print a; } }":                               "a 1-3, b 2-2",
		"func f() { try { } catch a { try { print 1; } catch b { } } print 1; }":                               "a 1-2, b 3-2",
		"func f() { try { var x: int; try { print 1; } catch a { print 2; } } catch b { print 3; } print 4; }": "x 2-4, a 4-4, b 5-5",
		// A name again.
		"func f(a) { if a { var x: int; print x; } if a { var x: int; print x; } var x: int; print x; }": "a 0-8, x 2-2, x 5-5, x 7-8",
		"func f() { try { } catch e { print e; } try { } catch e { print e; } var e: int; }":             "e 1-1, e 3-3, e 5-5",
	} {
		s := accept(t, "P4.2", text)
		if got := scopes(s, 0); got != want {
			t.Errorf("P4.3: the variables of %q are %q, not %q", text, got, want)
		}
	}
}

// The numbers of statements go on from function to function; those of variables begin again.
func TestScopesOfLaterFunctions(t *testing.T) {
	s := accept(t, "P4.2", "func f(a) { print 1; } func g() { var b: int; print b; } func h(c, d) { } func i(e) { if e { var x: int; print x; var y: int; } try { } catch z { } }")
	for f, want := range []string{"a 0-1", "b 3-4", "c 5-5, d 5-5", "e 6-11, x 8-9, y 10-9, z 11-10"} {
		if got := scopes(s, f); got != want {
			t.Errorf("P4.3: the variables of the function %d are %q, not %q", f, got, want)
		}
	}
	for f, want := range []int{1, 0, 2, 1} {
		params := 0
		for _, v := range s.Vars[f] {
			if v.Param {
				params++
			}
		}
		if params != want {
			t.Errorf("P4.3: the function %d has %d parameters, not %d", f, params, want)
		}
	}
}

// A name may be declared where no variable of this name is in scope.
func TestNamesDeclaredAgain(t *testing.T) {
	for _, text := range []string{
		"if 1 { var x: int; } var x: int;", "while 1 { var x: int; } var x: R;", "try { var x: int; } catch e { } var x: int;", "try { } catch e { var x: int; } var x: int;",
		"if 1 { var x: int; } else { var x: int; }", "try { var x: int; } catch e { var x: int; }", "try { var x: int; } catch x { }", "try { } catch x { } var x: int[2];", "try { } catch x { } try { } catch x { }",
		"try { try { } catch x { } } catch x { }", "try { if 1 { var x: int; } var y: int; } catch x { var y: int; }", "if 1 { if 1 { var x: int; } } else { while 1 { var x: int; } var x: int; }",
		"if 1 { var x: int; if 1 { var y: int; } } var y: int; if 1 { var x: int; }", "var f0: int; var R: R; var main: int[2]; var a: int; var b: int; var c: int;",
	} {
		accept(t, "P4.2", withNames(text))
	}
	for _, text := range []string{
		"var x: int; @var x: int;", "var x: int; @var x: R;", "var x: R; @var x: int[3];", "var x: int[3]; @var x: int;", "@var i: int;", "@var j: R;", "@var r: int;", "@var t: int[3];",
		"if 1 { @var i: int; }", "if 1 { } else { @var i: int; }", "while 1 { @var r: int; }", "try { @var t: int; } catch e { }", "try { } catch e { @var s: S; }", "while 1 { if 1 { try { } catch e { while 1 { @var t: int; } } } }",
		"var x: int; if 1 { if 1 { @var x: int; } }", "if 1 { var x: int; print x; while 1 { @var x: int; } }", "if 1 { var x: int; if 1 { var y: int; } @var x: int; }", "if 1 { var x: int; } var x: int; if 1 { @var x: int; }", "if 1 { var x: int; } var x: int; @var x: int;",
		"try { } catch e { @var e: int; }", "try { } catch e { if 1 { @var e: R; } }", "try { } catch e { var x: int; @try { } catch x { } }",
		"@try { } catch i { }", "@try { } catch r { }", "@try { } catch t { print 1; }", "var x: int; if 1 { @try { print 1; } catch x { } }", "try { } catch e { @try { } catch e { } }", "var x: int; @try { if 1 { print 1; } } catch x { }",
	} {
		refuseAt(t, "P4.2", withNames(text), api.ErrDuplicate)
	}
}

// usesOf are statements that use the variable x.
func usesOf() []string {
	return []string{"@print x;", "@x = 1;", "@x.a = 1;", "@x[0] = 1;", "@x = f0();", "@f1(x);", "@if x { }", "@while 1 + x { }", "@throw x.a;", "@return x[0];", "@return f1(-x);"}
}

// A name is used where no variable of this name is in scope.
func TestNamesOutOfScope(t *testing.T) {
	for _, place := range []string{
		"~", "~ var x: int;", "if 1 { var x: int; } ~", "if 1 { var x: int; } else { ~ }", "if 1 { ~ } else { var x: int; }", "if 1 { ~ } var x: int;", "if 1 { if 1 { var x: int; } ~ }", "while 1 { var x: int; print x; } ~", "while 1 { ~ var x: int; }",
		"try { ~ } catch x { }", "try { } catch x { } ~", "try { } catch x { print x; } ~", "try { var x: int; } catch e { ~ }", "try { var x: int; } catch e { } ~", "try { } catch e { var x: int; } ~", "try { try { } catch x { } ~ } catch e { }", "try { ~ } catch e { var x: int; }",
		"if 1 { var x: int; if 1 { var y: int; } } ~", "try { } catch x { try { } catch y { } } ~", "if 1 { try { } catch x { var y: int; } ~ }",
	} {
		for _, use := range usesOf() {
			refuseAt(t, "P4.2", withNames(strings.Replace(place, "~", use, 1)), api.ErrName)
		}
	}
	for _, text := range []string{
		"func f(x) { } func g() { @print x; }", "func f() { var x: int; } func g() { @print x; }", "func f() { @print x; } func g(x) { }", "func f() { try { } catch x { } } func g() { @print x; }",
		"func f() { @print f; }", "record x { a } func f() { @print x; }", "record x { a } func f() { @x.a = 1; }", "func f() { @f = 1; }", "func f(a) { @print A; }", "func f(ab) { @print a; }",
	} {
		refuseAt(t, "P4.2", text, api.ErrName)
	}
}

// A variable is in scope from behind its declaration to the end of its block.
func TestNamesInScope(t *testing.T) {
	for _, place := range []string{
		"var x: int; ~", "var x: int; print 1; ~ print 2;", "var x: int; if 1 { ~ } else { ~ }", "var x: int; while 1 { if 1 { } ~ } ~", "if 1 { var x: int; ~ } ", "if 1 { } else { var x: int; ~ if 1 { ~ } ~ }", "while 1 { var x: int; ~ }", "try { var x: int; ~ } catch e { }",
		"try { } catch x { ~ }", "try { } catch x { if 1 { ~ } else { ~ } try { ~ } catch e { ~ } }", "var x: int; try { ~ } catch e { ~ } ~", "try { } catch e { var x: int; ~ }", "var x: int; if 1 { var y: int; } ~", "try { } catch x { try { } catch y { } ~ }", "if 1 { var x: int; } var x: int; ~",
	} {
		for _, use := range []string{"print x;", "x = 1;", "x = f0();", "f1(x);", "if x { }", "while 1 + x { }", "throw -x;", "return t[x];", "return f1(-x);"} {
			accept(t, "P4.2", withNames(strings.ReplaceAll(place, "~", use)))
		}
	}
}
