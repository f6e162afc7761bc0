package inline

import (
	"debugger/api"
	"debugger/operation"
)

// The most that a function may have behind a replacement, beside the limits of package api.
const (
	mostContexts = 16
	mostObjects  = 64
	mostParams   = 999  // of a block
	lastValue    = 9999 // the greatest number of a value
)

// fits tells whether a function stays within the limits if the leaf's code takes the place of the call.
func (s site) fits(c api.Code) bool {
	params, value := greatest(s.leaf)
	return len(c.Blocks)+len(s.leaf.Blocks) <= api.MaxBlocks &&
		operation.Count(c)+operation.Count(s.leaf)+len(s.leaf.Blocks)*len(s.bindings) <= api.MaxOps &&
		len(c.Contexts)+1 <= mostContexts &&
		len(c.Objects)+len(s.leaf.Objects) <= mostObjects &&
		params+len(s.passed) <= mostParams &&
		value+len(s.passed) <= lastValue
}

// greatest returns the greatest number of parameters of a block, and the greatest number of a value that an operation defines.
func greatest(c api.Code) (params, value int) {
	for _, b := range c.Blocks {
		params = max(params, b.Params)
		for _, o := range b.Ops {
			value = max(value, o.Dst)
		}
	}
	return params, value
}
