package operation

import (
	"fmt"
	"testing"

	"debugger/api"
)

func TestKinds(t *testing.T) {
	want := map[int]string{api.OpConst: "defines", api.OpCopy: "defines A", api.OpLoad: "defines A", api.OpStore: "A B", api.OpPrint: "A"}
	for kind := api.OpAdd; kind <= api.OpNotEqual; kind++ {
		want[kind] = fmt.Sprintf("defines A B operator %d", kind-api.OpAdd+api.ExprAdd)
	}
	for kind := -1; kind <= api.OpBind+1; kind++ {
		got := ""
		add := func(is bool, text string) {
			if is && got != "" {
				got += " "
			}
			if is {
				got += text
			}
		}
		a, b := Uses(kind)
		add(Defines(kind), "defines")
		add(a, "A")
		add(b, "B")
		add(Binary(kind), fmt.Sprintf("operator %d", Operator(kind)))
		if got != want[kind] {
			t.Errorf("the kind %d: %q, not %q", kind, got, want[kind])
		}
	}
}

func TestOperators(t *testing.T) {
	for operator := -1; operator <= api.ExprNotEqual+1; operator++ {
		kind, has := Kind(operator), operator >= api.ExprAdd && operator <= api.ExprNotEqual
		if Binary(kind) != has || has && Operator(kind) != operator {
			t.Errorf("the kind of the operator %d is %d", operator, kind)
		}
	}
}

func TestCount(t *testing.T) {
	b := func(count int) api.Block { return api.Block{Ops: make([]api.Op, count)} }
	for _, c := range []struct {
		blocks []api.Block
		want   int
	}{{nil, 0}, {[]api.Block{b(0)}, 0}, {[]api.Block{b(3)}, 3}, {[]api.Block{b(2), b(0), b(5)}, 7}} {
		if got := Count(api.Code{Blocks: c.blocks}); got != c.want {
			t.Errorf("%d operations, not %d", got, c.want)
		}
	}
}
