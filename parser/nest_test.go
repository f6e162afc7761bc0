package parser

import (
	"strings"
	"testing"

	"debugger/api"
)

// inBlocks returns the text of a function with a text that lies in so many blocks.
func inBlocks(opening, closing, text string, blocks int) string {
	return openBlocks(opening, text, blocks) + strings.Repeat(closing, blocks-1) + "}"
}

// openBlocks returns what inBlocks does, cut off behind the text.
func openBlocks(opening, text string, blocks int) string {
	return "func f() {" + strings.Repeat(opening, blocks-1) + text
}

func allStatements() []string {
	return []string{"var x: int;", "x = 1;", "x.a = f();", "x[1] = 2;", "f();", "if 1 { }", "if 1 { } else { }", "while 1 { }", "return 1;", "return f();", "throw 1;", "try { } catch e { }", "print 1;"}
}

// everyBlock has the openings and the closings of each block of a statement, as pairs.
func everyBlock() [][2]string {
	return [][2]string{
		{" if 1 { ", " } "}, {" if 1 { } else { ", " } "}, {" if 1 { ", " } else { } "}, {" while 1 { ", " } "},
		{" try { ", " } catch e { } "}, {" try { } catch e { ", " } "}, {" x = 1; while 1 { ", " } f(); "},
	}
}

func TestBlocksWithinBlocks(t *testing.T) {
	for _, b := range everyBlock() {
		for _, s := range allStatements() {
			for blocks := 1; blocks <= api.MaxNest; blocks++ {
				expectParsed(t, inBlocks(b[0], b[1], s, blocks))
				expectParsed(t, inBlocks(b[0], b[1], s+s, blocks))
			}
			refuseAt(t, "P3.2", inBlocks(b[0], b[1], "@"+s, api.MaxNest+1), api.ErrLimit)
		}
		// A block may lie in as many blocks as the limit allows, if it has no statement.
		expectParsed(t, inBlocks(b[0], b[1], "", api.MaxNest+1))
		refuseAt(t, "P3.2", inBlocks(b[0], b[1], "@1", api.MaxNest+1), api.ErrSyntax)
		refuseAt(t, "P3.2", inBlocks(b[0], b[1], "@{}", api.MaxNest+1), api.ErrSyntax)
		refuseAt(t, "P3.2", inBlocks(b[0], b[1], "@else", api.MaxNest+1), api.ErrSyntax)
		refuseAt(t, "P3.2", openBlocks(b[0], "@", api.MaxNest+1), api.ErrSyntax)
		// The statement is too deep whatever follows its first token.
		for _, first := range []string{"x +", "x", "var 1", "if", "print ;", "return }", "try x"} {
			refuseAt(t, "P3.2", openBlocks(b[0], "@"+first, api.MaxNest+1), api.ErrLimit)
		}
	}
}

// Blocks that have ended do not count, neither those of the function ahead.
func TestBlocksBesideBlocks(t *testing.T) {
	deep := strings.Repeat("while 1 { ", api.MaxNest-1) + "print 1; " + strings.Repeat("} ", api.MaxNest-1)
	full := "try { " + strings.Repeat("if 1 { ", api.MaxNest-2) + "print 1; " + strings.Repeat("} ", api.MaxNest-1)
	expectParsed(t, "func f() { "+deep+deep+"if 1 {} else {} "+full+"catch e { print 1; } "+deep+"}")
	expectParsed(t, "func f() { "+deep+"} func g() { "+deep+"} func h() { print 1; "+deep+"}")
	refuseAt(t, "P3.2", "func f() { "+deep+"} func g() { "+deep+"} func h() { while 1 { "+strings.Repeat("while 1 { ", api.MaxNest-1)+"@"+"print 1; ", api.ErrLimit)
}

// expectParsed checks that a text is a program, and that what is printed of it is the same one.
func expectParsed(t *testing.T, text string) {
	t.Helper()
	p, line, e := Parse(text)
	if line != 0 || e != api.OK || len(p.Funcs) == 0 {
		t.Errorf("P3.2: Parse(%.300q) has the error %d in line %d", text, e, line)
		return
	}
	again, _, _ := Parse(Print(p))
	if key(withoutLines(again)) != key(withoutLines(p)) {
		t.Errorf("P3.4: Print of Parse of %.300q is %.300q", text, Print(p))
	}
}

// places are statements with an expression at each "~", which is as many levels below that of the statement.
func places() map[string]int {
	return map[string]int{
		"print ~;": 0, "throw ~;": 0, "return ~;": 0, "x = ~;": 0, "x.a = ~;": 0, "x[1] = ~;": 0, "if ~ { }": 0, "while ~ { }": 0,
		"f(~);": 0, "f(1, ~);": 0, "x = f(~);": 0, "x = f(1, ~, 2);": 0, "return f(~);": 0, "x[1] = f(~);": 0,
		"x[~] = 1;": 1, "x[~] = f();": 1, "print x[~];": 1, "print (~);": 1, "print -~;": 1, "print !~;": 1, "f(1, (~));": 1, "return f(x[~]);": 1,
		"print 1 + ~;": 0, "print 1 * 2 + ~;": 0, "print 1 < ~;": 0, "print 1 + -~;": 1, "print 1 < (2 & ~);": 1, "print (1) + ~;": 0, "print x[1] * ~;": 0, "print -x[2] - (~);": 1,
		"if (-~) { }": 2, "x[x[~]] = 1;": 2, "x[(~)] = 1;": 2, "x[-~] = 1;": 2, "f(---1, ---~);": 3, "f(((1)), ((~)) * 2);": 2,
	}
}

// wraps are expressions with one that begins one level deeper at "~".
func wraps() []string { return []string{"(~)", "x[~]", "-~", "!~", "(~ - 1)", "x[~ * 2]"} }

func TestExpressionsWithinExpressions(t *testing.T) {
	for place, level := range places() {
		for i, wrap := range wraps() {
			other := wraps()[(i+3)%len(wraps())]
			for _, token := range []string{"1", "x", "x.a", "x + 1", "x < x"} {
				at := strings.Replace(place, "~", deeper(wrap, other, api.MaxNest-level), 1)
				expectParsed(t, "func f() { "+strings.Replace(at, "~", "1", 1)+" }")
				expectParsed(t, "func f() { "+strings.Replace(at, "~", strings.Fields(token)[0], 1)+" }")
				at = strings.Replace(place, "~", deeper(wrap, other, api.MaxNest-level+1), 1)
				refuseAt(t, "P3.2", "func f() { "+strings.Replace(at, "~", "@"+token, 1)+" }", api.ErrLimit)
			}
			checkDeepest(t, strings.Replace(place, "~", deeper(wrap, other, api.MaxNest-level+1), 1))
		}
	}
}

// deeper returns an expression with "~" so many levels below it.
func deeper(wrap, other string, levels int) string {
	s := "~"
	for i := range levels {
		if i%3 == 1 {
			s = strings.Replace(s, "~", other, 1)
		} else {
			s = strings.Replace(s, "~", wrap, 1)
		}
	}
	return s
}

// checkDeepest checks what stands where an expression is too deep: whether it is one is decided by its first token.
func checkDeepest(t *testing.T, text string) {
	t.Helper()
	for _, first := range []string{"(1)", "-1", "!x", "x[1]", "x(1)", "( +", "- ]", "x . 1", "1 1"} {
		refuseAt(t, "P3.2", "func f() { "+strings.Replace(text, "~", "@"+first, 1)+" }", api.ErrLimit)
	}
	for _, first := range []string{"+ 1", "* x", ")", "]", ";", "{", "if", "int", "= 1", ", 1", ". a"} {
		refuseAt(t, "P3.2", "func f() { "+strings.Replace(text, "~", "@"+first, 1)+" }", api.ErrSyntax)
	}
	ahead, _, _ := strings.Cut(text, "~")
	refuseAt(t, "P3.2", "func f() { "+ahead+" @", api.ErrSyntax)
}

// Levels that have ended do not count, and neither do those of other expressions of the statement.
func TestLevelsBesideLevels(t *testing.T) {
	deep := strings.Repeat("(", api.MaxNest) + "1" + strings.Repeat(")", api.MaxNest)
	signs := strings.Repeat("-", api.MaxNest) + "x"
	index := strings.Repeat("x[", api.MaxNest) + "1" + strings.Repeat("]", api.MaxNest)
	expectParsed(t, "func f() { print "+deep+" + "+deep+" * "+signs+" - "+index+" < "+deep+"; }")
	expectParsed(t, "func f() { "+index+" = "+index+"; x = f("+deep+", "+index+", "+signs+"); "+index+" = f("+signs+"); }")
	expectParsed(t, "func f() { f("+deep+"); return f("+deep+", "+deep+"); }")
	refuseAt(t, "P3.2", "func f() { print "+deep+" + "+strings.Repeat("(", api.MaxNest)+"-@1", api.ErrLimit)
	refuseAt(t, "P3.2", "func f() { f("+deep+", "+strings.Repeat("-", api.MaxNest)+"(@1", api.ErrLimit)
	refuseAt(t, "P3.2", "func f() { "+strings.Repeat("x[", api.MaxNest+1)+"@1", api.ErrLimit)
}

// The blocks in which a statement lies are no levels of its expressions, and levels are no blocks.
func TestBlocksAndLevels(t *testing.T) {
	deep := strings.Repeat("(", api.MaxNest) + "1" + strings.Repeat(")", api.MaxNest)
	expectParsed(t, inBlocks("if "+deep+" {", "}", "print "+deep+"; x["+strings.Repeat("-", api.MaxNest-1)+"1] = 1;", api.MaxNest))
	refuseAt(t, "P3.2", openBlocks("if "+deep+" {", "while "+strings.Repeat("(", api.MaxNest)+"!@1", api.MaxNest), api.ErrLimit)
	refuseAt(t, "P3.2", inBlocks("if "+deep+" {", "}", "@print "+deep+";", api.MaxNest+1), api.ErrLimit)
}

// Of several errors the one at the first token counts.
func TestFirstOfSeveralErrors(t *testing.T) {
	blocks := strings.Repeat("if 1 { ", api.MaxNest)
	levels := strings.Repeat("(", api.MaxNest)
	refuseAt(t, "P3.2", "func f() { var x: int[@9]; "+blocks+"print 1; ; "+levels+"(1", api.ErrLimit)
	refuseAt(t, "P3.2", "func f() { x @; var x: int[9]; "+blocks+"print 1;", api.ErrSyntax)
	refuseAt(t, "P3.2", "func f() { "+blocks+"@print "+levels+"(1; ; var x: int[0];", api.ErrLimit)
	refuseAt(t, "P3.2", "func f() { print "+levels+"(@1; var x: int[0]; "+blocks+"print 1;", api.ErrLimit)
	refuseAt(t, "P3.2", "func f() { print "+levels+"1 @; var x: int[0];", api.ErrSyntax)
	refuseAt(t, "P3.2", "func f() { print "+levels+"1 @(1", api.ErrSyntax)
	refuseAt(t, "P3.2", "func f() { print "+levels+"x @(1", api.ErrSyntax)
}
