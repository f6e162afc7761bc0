package checker

import (
	"slices"

	"debugger/api"
)

func (c *checker) expression(x *api.Expr) api.Errno {
	switch x.Op {
	case api.ExprVariable:
		return c.variable(x, api.VarScalar)
	case api.ExprField:
		return c.field(x)
	case api.ExprElement:
		if e := c.variable(x, api.VarArray); e != api.OK {
			return e
		}
	}
	return each(x.Args, c.expression)
}

// variable checks that the name of an expression is that of a variable of a kind.
func (c *checker) variable(x *api.Expr, kind int) api.Errno {
	v, ok := c.scope[x.Name]
	if !ok {
		return api.ErrName
	}
	if c.vars[v].Kind != kind {
		return api.ErrType
	}
	x.Var = v
	return api.OK
}

func (c *checker) field(x *api.Expr) api.Errno {
	if e := c.variable(x, api.VarRecord); e != api.OK {
		return e
	}
	r := c.source.Program.Records[c.vars[x.Var].Record]
	x.Number = slices.Index(r.Fields, x.Field)
	if x.Number < 0 {
		return api.ErrName
	}
	return api.OK
}
