package parser

import "debugger/api"

// block returns the statements of a block and the line of its closing brace.
func (p *parser) block() ([]api.Stmt, int) {
	p.expect("{")
	p.blocks++
	list := []api.Stmt{}
	for !p.at("}") {
		list = append(list, p.statement())
	}
	p.blocks--
	return list, p.next().Line
}

func (p *parser) statement() api.Stmt {
	first := p.tokens[0]
	parse := p.parsers[first.Text]
	if first.Kind == api.TokenName {
		parse = (*parser).targetStatement
	}
	if parse == nil {
		p.refuse(api.ErrSyntax)
	}
	if p.blocks > api.MaxNest {
		p.refuse(api.ErrLimit)
	}
	s := parse(p)
	s.Line = first.Line
	return s
}

func (p *parser) declareStatement() api.Stmt {
	p.expect("var")
	s := api.Stmt{Kind: api.StmtDeclare, Name: p.name()}
	p.expect(":")
	if !p.accept("int") {
		s.Type = p.name()
	} else if p.accept("[") {
		s.Len = p.length()
		p.expect("]")
	}
	p.expect(";")
	return s
}

// length returns the next token's number as that of the elements of an array.
func (p *parser) length() int {
	t := p.tokens[0]
	if t.Kind != api.TokenNumber {
		p.refuse(api.ErrSyntax)
	}
	if t.Number < 1 || t.Number > api.MaxLen {
		p.refuse(api.ErrLimit)
	}
	return p.next().Number
}

// targetStatement returns a statement that begins with a name: an assignment, or a call with or without a target.
func (p *parser) targetStatement() api.Stmt {
	if p.atCall() {
		return p.call(api.StmtCall)
	}
	target := []api.Expr{p.target(0)}
	p.expect("=")
	s := api.Stmt{}
	if p.atCall() {
		s = p.call(api.StmtCall)
	} else {
		s = p.valueOf(api.StmtAssign)
	}
	s.Target = target
	return s
}

// atCall tells whether the next tokens are a name and a parenthesis.
func (p *parser) atCall() bool {
	return p.tokens[0].Kind == api.TokenName && p.tokens[1].Text == "("
}

// call returns the end of a statement of a kind, from the name of the function on.
func (p *parser) call(kind int) api.Stmt {
	s := api.Stmt{Kind: kind, Func: p.name()}
	p.expect("(")
	if !p.at(")") {
		s.Args = p.arguments()
	}
	p.expect(")")
	p.expect(";")
	return s
}

func (p *parser) arguments() []api.Expr {
	list := []api.Expr{p.expression(0)}
	for p.accept(",") {
		list = append(list, p.expression(0))
	}
	return list
}

// valueOf returns the end of a statement of a kind, from its expression on.
func (p *parser) valueOf(kind int) api.Stmt {
	s := api.Stmt{Kind: kind, Args: []api.Expr{p.expression(0)}}
	p.expect(";")
	return s
}

func (p *parser) ifStatement() api.Stmt {
	p.expect("if")
	s := api.Stmt{Kind: api.StmtIf, Args: []api.Expr{p.expression(0)}}
	s.Body, _ = p.block()
	if p.accept("else") {
		s.Else, _ = p.block()
	}
	return s
}

func (p *parser) whileStatement() api.Stmt {
	p.expect("while")
	s := api.Stmt{Kind: api.StmtWhile, Args: []api.Expr{p.expression(0)}}
	s.Body, _ = p.block()
	return s
}

func (p *parser) returnStatement() api.Stmt {
	p.expect("return")
	if p.atCall() {
		return p.call(api.StmtReturn)
	}
	return p.valueOf(api.StmtReturn)
}

func (p *parser) throwStatement() api.Stmt {
	p.expect("throw")
	return p.valueOf(api.StmtThrow)
}

func (p *parser) tryStatement() api.Stmt {
	p.expect("try")
	s := api.Stmt{Kind: api.StmtTry}
	s.Body, _ = p.block()
	p.expect("catch")
	s.Name = p.name()
	s.Else, _ = p.block()
	return s
}

func (p *parser) printStatement() api.Stmt {
	p.expect("print")
	return p.valueOf(api.StmtPrint)
}
