package parser

import "debugger/api"

// Ranks of expressions. Both operands of an operation are of a higher rank than the operation, but from rankBits on the left one may be of the same. rankUnary is that of all expressions that are no operation of two operands.
const (
	rankCompare = 1 + iota
	rankBits
	rankSum
	rankProduct
	rankUnary
)

type operator struct {
	sign string
	rank int
}

// operators are those of ExprAdd to ExprNotEqual, in this order.
var operators = [...]operator{
	{"+", rankSum}, {"-", rankSum},
	{"*", rankProduct}, {"/", rankProduct}, {"%", rankProduct},
	{"&", rankBits}, {"|", rankBits}, {"^", rankBits},
	{"<", rankCompare}, {"<=", rankCompare}, {"==", rankCompare}, {"!=", rankCompare},
}

// expression returns an expression that begins so many levels below that of its statement.
func (p *parser) expression(level int) api.Expr {
	return p.operation(rankCompare, level)
}

// operation returns an expression of at least this rank.
func (p *parser) operation(rank, level int) api.Expr {
	if rank == rankUnary {
		return p.unary(level)
	}
	left := p.operation(rank+1, level)
	for {
		op, ok := p.operator(rank)
		if !ok {
			return left
		}
		p.next()
		left = api.Expr{Op: op, Args: []api.Expr{left, p.operation(rank+1, level)}}
		if rank == rankCompare {
			return left
		}
	}
}

// operator returns which operator of a rank the next token is, and whether it is one.
func (p *parser) operator(rank int) (int, bool) {
	for i, o := range operators {
		if o.rank == rank && p.at(o.sign) {
			return api.ExprAdd + i, true
		}
	}
	return 0, false
}

func (p *parser) unary(level int) api.Expr {
	t := p.tokens[0]
	if !beginsExpression(t) {
		p.refuse(api.ErrSyntax)
	}
	if level > api.MaxNest {
		p.refuse(api.ErrLimit)
	}
	if t.Kind == api.TokenName {
		return p.target(level)
	}
	p.next()
	switch t.Text {
	case "-":
		return api.Expr{Op: api.ExprNegate, Args: []api.Expr{p.unary(level + 1)}}
	case "!":
		return api.Expr{Op: api.ExprNot, Args: []api.Expr{p.unary(level + 1)}}
	case "(":
		e := p.expression(level + 1)
		p.expect(")")
		return e
	}
	return api.Expr{Op: api.ExprLiteral, Number: t.Number}
}

func beginsExpression(t api.Token) bool {
	switch t.Kind {
	case api.TokenName, api.TokenNumber:
		return true
	}
	return t.Text == "-" || t.Text == "!" || t.Text == "("
}

// target returns a variable, a field or an element.
func (p *parser) target(level int) api.Expr {
	e := api.Expr{Op: api.ExprVariable, Name: p.name()}
	switch {
	case p.accept("."):
		e.Op = api.ExprField
		e.Field = p.name()
	case p.accept("["):
		e.Op = api.ExprElement
		e.Args = []api.Expr{p.expression(level + 1)}
		p.expect("]")
	}
	return e
}
