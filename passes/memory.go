package passes

import (
	"debugger/api"
	"debugger/duplicate"
)

// ExpectNew checks that the results of a pass are new memory, that its argument stays as it is, and that its result is always the same.
func ExpectNew(t Tester, pass Pass, c api.Code) {
	t.Helper()
	ExpectNewModule(t, Each(pass), api.Module{Funcs: []api.Code{c}})
}

// ExpectNewModule checks the same of a pass over modules.
func ExpectNewModule(t Tester, pass ModulePass, m api.Module) {
	t.Helper()
	m = roomyModule(m)
	before := duplicate.Module(stretchedModule(m))
	first, again := pass(m), pass(m)
	want := duplicate.Module(first)
	if !EqualModules(again, want) {
		t.Error("P3: the second result for " + shownModule(m) + "is another one")
	}
	if !apartModules(m, first, again) {
		t.Error("P2: two slices share memory: " + shownModule(m))
	}
	spoilModule(first)
	if !EqualModules(stretchedModule(m), before) {
		t.Fatal("P2: the argument is changed, or changes with the result: " + shownModule(before))
	}
	if !EqualModules(pass(m), want) {
		t.Error("P3: the result for " + shownModule(m) + "changes with an earlier one")
	}
	m = Each(Close)(m)
	before = duplicate.Module(stretchedModule(m))
	if !EqualModules(pass(m), want) || !EqualModules(stretchedModule(m), before) {
		t.Error("P2: spare capacity of " + shownModule(m) + "is used")
	}
}

// Stretched returns a code with the same memory whose slices reach to the end of their capacity.
func Stretched(c api.Code) api.Code {
	blocks := append([]api.Block(nil), c.Blocks[:cap(c.Blocks)]...)
	for i := range blocks {
		b := &blocks[i]
		b.Ops = b.Ops[:cap(b.Ops)]
		for _, list := range lists(&b.Term) {
			*list = (*list)[:cap(*list)]
		}
	}
	return api.Code{Params: c.Params, Blocks: blocks, Contexts: c.Contexts[:cap(c.Contexts)], Objects: c.Objects[:cap(c.Objects)]}
}

func stretchedModule(m api.Module) api.Module {
	return Each(Stretched)(api.Module{Funcs: m.Funcs[:cap(m.Funcs)]})
}

// lists returns the slices of a terminator.
func lists(t *api.Term) []*[]int { return []*[]int{&t.Args, &t.To[0].Args, &t.To[1].Args} }

// Roomy returns a copy of a code whose slices have spare capacity.
func Roomy(c api.Code) api.Code {
	c.Blocks, c.Contexts, c.Objects = roomy(c.Blocks), roomy(c.Contexts), roomy(c.Objects)
	for i := range c.Blocks {
		b := &c.Blocks[i]
		b.Ops = roomy(b.Ops)
		for _, list := range lists(&b.Term) {
			*list = roomy(*list)
		}
	}
	return c
}

func roomyModule(m api.Module) api.Module {
	return api.Module{Funcs: roomy(Each(Roomy)(m).Funcs)}
}

func roomy[T any](list []T) []T { return append(make([]T, 0, len(list)+3), list...) }

// Close returns a copy of a code whose operations, and whose arguments, lie in each other's spare capacity.
func Close(c api.Code) api.Code {
	c = duplicate.Code(c)
	var ops []api.Op
	var args []int
	for _, b := range c.Blocks {
		ops = append(ops, b.Ops...)
		for _, list := range lists(&b.Term) {
			args = append(args, *list...)
		}
	}
	for i := range c.Blocks {
		b := &c.Blocks[i]
		b.Ops = first(&ops, len(b.Ops))
		for _, list := range lists(&b.Term) {
			*list = first(&args, len(*list))
		}
	}
	return c
}

// first takes so many elements from the beginning of a list, with the rest as their spare capacity.
func first[T any](list *[]T, count int) []T {
	taken := (*list)[:count]
	*list = (*list)[count:]
	return taken
}

// Spoil makes everything in the memory of a code zero.
func Spoil(c api.Code) {
	all := Stretched(c)
	for _, b := range all.Blocks {
		clear(b.Ops)
		for _, list := range lists(&b.Term) {
			clear(*list)
		}
	}
	clear(c.Blocks[:cap(c.Blocks)])
	clear(all.Contexts)
	clear(all.Objects)
}

func spoilModule(m api.Module) {
	for _, c := range m.Funcs {
		Spoil(c)
	}
	clear(m.Funcs[:cap(m.Funcs)])
}

// Apart tells whether no two slices of some codes share memory.
func Apart(codes ...api.Code) bool { return apart(map[any]bool{}, codes) }

// apartModules tells whether no two slices of some modules share memory.
func apartModules(list ...api.Module) bool {
	seen := map[any]bool{}
	for _, m := range list {
		funcs := m.Funcs[:cap(m.Funcs)]
		if !note(seen, funcs) || !apart(seen, funcs) {
			return false
		}
	}
	return true
}

// apart tells whether no two slices of some codes, and of those that were seen before, share memory.
func apart(seen map[any]bool, codes []api.Code) bool {
	for _, c := range codes {
		all := Stretched(c)
		if !note(seen, c.Blocks[:cap(c.Blocks)]) || !note(seen, all.Contexts) || !note(seen, all.Objects) {
			return false
		}
		for _, b := range all.Blocks {
			args := lists(&b.Term)
			if !note(seen, b.Ops) || !note(seen, *args[0]) || !note(seen, *args[1]) || !note(seen, *args[2]) {
				return false
			}
		}
	}
	return true
}

// note notes the places of the elements of a list, and tells whether none of them was noted before.
func note[T any](seen map[any]bool, list []T) bool {
	for i := range list {
		if seen[&list[i]] {
			return false
		}
		seen[&list[i]] = true
	}
	return true
}
