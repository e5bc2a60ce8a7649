package graph_test

import (
	"fmt"
	"math"
	"reflect"
	"slices"
	"strings"
	"testing"

	"scullion/api"
	"scullion/graph"
)

const (
	minusZero = 1 << 63
	callNone  = 0x7ff0000000000001
	mostNodes = 4096
)

func ref(at int) api.Value { return api.Value{Kind: api.VRef, Ref: at} }

func num(n int64) api.Value { return api.Value{Kind: api.VInt, Int: n} }

func pair(re, im uint64) api.Value { return api.Value{Kind: api.VComplex, Re: re, Im: im} }

func node(kind int, fields ...api.Value) api.Node { return api.Node{Kind: kind, Fields: fields} }

// littered fills what v's kind gives no meaning.
func littered(v api.Value) api.Value {
	if v.Kind != api.VInt {
		v.Int = -5
	}
	if v.Kind != api.VComplex {
		v.Re, v.Im = 77, callNone
	}
	if v.Kind != api.VRef {
		v.Ref = 1 << 20
	}
	return v
}

func copyOf(g api.Graph) api.Graph {
	out := api.Graph{Roots: slices.Clone(g.Roots), Weaks: slices.Clone(g.Weaks)}
	for _, n := range g.Nodes {
		out.Nodes = append(out.Nodes, node(n.Kind, slices.Clone(n.Fields)...))
	}
	return out
}

// shown tells all of a graph, with nil and empty lists as one.
func shown(g api.Graph) string {
	var out strings.Builder
	for _, n := range g.Nodes {
		fmt.Fprintf(&out, "%d %v;", n.Kind, n.Fields)
	}
	fmt.Fprintf(&out, " %v %v", g.Roots, g.Weaks)
	return out.String()
}

// may: graphs that may be.
func may() []api.Graph {
	return []api.Graph{
		{},
		{Nodes: []api.Node{{}}},
		{Nodes: []api.Node{}, Roots: []int{}, Weaks: []int{}},
		{Roots: []int{-1}, Weaks: []int{-1, -1}},
		{Nodes: []api.Node{node(0)}, Roots: []int{0}, Weaks: []int{0}},
		{Nodes: []api.Node{node(7, ref(0))}, Roots: []int{0, 0, -1, 0}},
		{Nodes: []api.Node{node(-4, num(math.MinInt64), num(math.MaxInt64), pair(math.MaxUint64, minusZero), api.Value{})}, Weaks: []int{0}},
		{Nodes: []api.Node{node(math.MinInt, ref(1)), node(math.MaxInt, ref(2)), node(3, ref(0))}, Roots: []int{2}},
		{Nodes: []api.Node{node(0, littered(num(1)), littered(api.Value{}), littered(pair(1, 2)), littered(ref(0)))}, Roots: []int{0}},
		{Nodes: []api.Node{node(0, slices.Repeat([]api.Value{num(3), ref(0)}, 40)...)}, Roots: slices.Repeat([]int{0}, 30), Weaks: slices.Repeat([]int{-1}, 30)},
		{Nodes: make([]api.Node, mostNodes), Roots: []int{mostNodes - 1}, Weaks: []int{0}},
	}
}

// mayNot: graphs that may not be, each for one reason.
func mayNot() []api.Graph {
	out := []api.Graph{{Nodes: make([]api.Node, mostNodes+1)}, {Nodes: make([]api.Node, 2*mostNodes), Roots: []int{0}}}
	for _, at := range []int{-2, -3, 2, 3, 1 << 32, 1<<32 + 1, math.MaxInt, math.MinInt, math.MinInt + 1} {
		two := []api.Node{node(0, num(1)), node(1)}
		out = append(out, api.Graph{Nodes: two, Roots: []int{at}}, api.Graph{Nodes: two, Roots: []int{0, -1, at}})
		out = append(out, api.Graph{Nodes: two, Weaks: []int{at}}, api.Graph{Nodes: two, Weaks: []int{-1, 1, at}, Roots: []int{0}})
	}
	for _, at := range []int{-1, -2, 2, 3, 1 << 32, 1<<32 + 1, math.MaxInt, math.MinInt} {
		out = append(out, api.Graph{Nodes: []api.Node{node(0, ref(at)), node(1)}, Roots: []int{0}})
		out = append(out, api.Graph{Nodes: []api.Node{node(0), node(1, num(1), ref(0), ref(at))}, Roots: []int{0}}) // which no root reaches
	}
	for _, kind := range []int{-1, 4, 5, 256, 257, 1 << 32, 1<<32 + 1, math.MaxInt, math.MinInt} {
		out = append(out, api.Graph{Nodes: []api.Node{node(0, api.Value{Kind: kind}), node(1)}, Roots: []int{0}})
		out = append(out, api.Graph{Nodes: []api.Node{node(0), node(1, num(1), api.Value{Kind: kind})}})
	}
	return append(out, api.Graph{Roots: []int{0}}, api.Graph{Weaks: []int{0}})
}

// rolls is a row of numbers that look like dice, the same each time.
type rolls uint64

func (r *rolls) below(n int) int {
	*r = *r*6364136223846793005 + 1442695040888963407
	return int(*r>>33) % n
}

// small makes a graph of few nodes, kinds and values, so that two of them are often alike.
func (r *rolls) small(nodes int) api.Graph {
	var g api.Graph
	for range nodes {
		n := node(r.below(2))
		for range r.below(3) {
			n.Fields = append(n.Fields, r.value(nodes))
		}
		g.Nodes = append(g.Nodes, n)
	}
	for range r.below(3) {
		g.Roots = append(g.Roots, r.below(nodes+1)-1)
	}
	for range r.below(3) {
		g.Weaks = append(g.Weaks, r.below(nodes+1)-1)
	}
	return g
}

func (r *rolls) value(nodes int) api.Value {
	v := ref(r.below(nodes))
	switch r.below(6) {
	case 0:
		v = api.Value{}
	case 1:
		v = num(int64(r.below(2)))
	case 2:
		v = pair(uint64(r.below(2))<<63, 0)
	}
	if r.below(2) == 0 {
		return littered(v)
	}
	return v
}

// renumbered is g with its nodes in another order: the node i stands at to[i].
func renumbered(g api.Graph, to []int) api.Graph {
	place := func(at int) int {
		if at < 0 {
			return at
		}
		return to[at]
	}
	out := copyOf(g)
	for i, n := range g.Nodes {
		moved := node(n.Kind, slices.Clone(n.Fields)...)
		for j, v := range n.Fields {
			if v.Kind == api.VRef {
				moved.Fields[j].Ref = to[v.Ref]
			}
		}
		out.Nodes[to[i]] = moved
	}
	for i, at := range g.Roots {
		out.Roots[i] = place(at)
	}
	for i, at := range g.Weaks {
		out.Weaks[i] = place(at)
	}
	return out
}

func orders(n int) [][]int {
	if n == 0 {
		return [][]int{nil}
	}
	var out [][]int
	for _, o := range orders(n - 1) {
		for at := range n {
			out = append(out, slices.Insert(slices.Clone(o), at, n-1))
		}
	}
	return out
}

// reached asks edge by edge till nothing new comes: no order is in it.
func reached(g api.Graph, from []int) []bool {
	out := make([]bool, len(g.Nodes))
	for _, at := range from {
		if at >= 0 && at < len(out) {
			out[at] = true
		}
	}
	for range g.Nodes {
		for i, n := range g.Nodes {
			for _, v := range n.Fields {
				if out[i] && v.Kind == api.VRef {
					out[v.Ref] = true
				}
			}
		}
	}
	return out
}

// P12.1

func TestMay(t *testing.T) {
	for i, g := range may() {
		if !graph.May(g) {
			t.Errorf("may %d: %.200s", i, shown(g))
		}
	}
	for i, g := range mayNot() {
		if graph.May(g) {
			t.Errorf("may not %d: %.200s", i, shown(g))
		}
	}
}

func TestReachByHand(t *testing.T) {
	g := api.Graph{Nodes: []api.Node{node(0, num(3)), node(1, ref(0), ref(2)), node(2, ref(1)), node(3, littered(api.Value{}), littered(num(0))), node(4, ref(4), ref(3))}, Roots: []int{4}, Weaks: []int{1}}
	for _, c := range []struct {
		from []int
		want string
	}{
		{nil, "-----"},
		{[]int{}, "-----"},
		{[]int{0}, "x----"},
		{[]int{1}, "xxx--"},
		{[]int{2}, "xxx--"},
		{[]int{3}, "---x-"},
		{[]int{4}, "---xx"},
		{[]int{0, 3}, "x--x-"},
		{[]int{4, 2, 4, 2}, "xxxxx"},
		{[]int{-1, 5, 3, math.MinInt, math.MaxInt, -2, 1 << 32, 1<<32 + 1}, "---x-"},
		{[]int{-1, 5}, "-----"},
	} {
		got := ""
		for _, x := range graph.Reach(g, c.from) {
			got += map[bool]string{true: "x", false: "-"}[x]
		}
		if got != c.want {
			t.Errorf("from %v: %s, not %s", c.from, got, c.want)
		}
	}
}

func TestReachOfAny(t *testing.T) {
	r := rolls(1)
	for range 3000 {
		g := r.small(1 + r.below(9))
		var from []int
		for range r.below(4) {
			from = append(from, r.below(len(g.Nodes)+4)-2)
		}
		if got := graph.Reach(g, from); !slices.Equal(got, reached(g, from)) {
			t.Fatalf("%s from %v: %v", shown(g), from, got)
		}
	}
}

func TestReachOfNone(t *testing.T) {
	for i, g := range mayNot() {
		if got := graph.Reach(g, []int{0, 1}); len(got) != 0 {
			t.Errorf("%d: %v", i, got)
		}
	}
	if got := graph.Reach(api.Graph{}, []int{0, -1}); len(got) != 0 {
		t.Error(got)
	}
}

// A chain as long as may be, and nodes with very many fields: each call ends soon.
func TestGreatGraphs(t *testing.T) {
	chain := api.Graph{Nodes: make([]api.Node, mostNodes), Roots: []int{mostNodes - 1}, Weaks: []int{0}}
	for i := range chain.Nodes {
		chain.Nodes[i] = node(i, ref(max(i-1, 0)))
	}
	x := graph.Trim(chain)
	if len(x.Nodes) != mostNodes || x.Nodes[0].Kind != mostNodes-1 || x.Nodes[0].Fields[0] != ref(1) || x.Weaks[0] != mostNodes-1 || x.Nodes[mostNodes-1].Fields[0] != ref(mostNodes-1) {
		t.Error("chain")
	}
	if n := strings.Count(graph.Text(chain), "\n"); n != mostNodes+2 || !graph.Alike(chain, x) {
		t.Error("chain", n)
	}
	if got := graph.Reach(chain, []int{2000}); !got[0] || !got[2000] || got[2001] {
		t.Error("reach")
	}
	wide := api.Graph{Nodes: make([]api.Node, mostNodes), Roots: []int{5}}
	for i := range wide.Nodes {
		for j := range 64 {
			wide.Nodes[i].Fields = append(wide.Nodes[i].Fields, ref((i*64+j)%mostNodes))
		}
	}
	if !graph.Alike(wide, graph.Trim(wide)) {
		t.Error("wide")
	}
}

// P12.2

func TestTrimExample(t *testing.T) {
	g := api.Graph{Nodes: []api.Node{node(0, num(1)), node(0, ref(0), num(2))}, Roots: []int{1}}
	want := api.Graph{Nodes: []api.Node{node(0, ref(1), num(2)), node(0, num(1))}, Roots: []int{0}}
	if got := graph.Trim(g); shown(got) != shown(want) {
		t.Error(shown(got))
	}
}

// TestTrimOrder: all roots ahead of all fields, breadth ahead of depth, field by field; each node once.
func TestTrimOrder(t *testing.T) {
	for i, c := range []struct {
		edges [][]int
		roots []int
		want  []int
	}{
		{[][]int{{1, 2}, {3}, {4}, {}, {}}, []int{0}, []int{0, 1, 2, 3, 4}},
		{[][]int{{2, 1}, {3}, {4}, {}, {}}, []int{0}, []int{0, 2, 1, 4, 3}},
		{[][]int{{1}, {2}, {3}, {0}, {2}}, []int{4, 0}, []int{4, 0, 2, 1, 3}},
		{[][]int{{1}, {2}, {3}, {0}, {2}}, []int{0, 4}, []int{0, 4, 1, 2, 3}},
		{[][]int{{1}, {2}, {3}, {0}, {2}}, []int{2, -1, 2, 4, 2}, []int{2, 4, 3, 0, 1}},
		{[][]int{{0, 0, 1, 0, 1}, {1, 1, 0}}, []int{1}, []int{1, 0}},
		{[][]int{{1}, {0}}, []int{-1, -1}, nil},
		{[][]int{{1}, {0}}, nil, nil},
		{[][]int{{3, 1}, {4}, {}, {5, 4}, {6}, {2}, {}}, []int{0}, []int{0, 3, 1, 5, 4, 2, 6}},
	} {
		g := api.Graph{Roots: c.roots}
		for k, edges := range c.edges {
			n := node(k)
			for _, to := range edges {
				n.Fields = append(n.Fields, num(int64(to)), ref(to), api.Value{})
			}
			g.Nodes = append(g.Nodes, n)
		}
		x := graph.Trim(g)
		var got []int
		for _, n := range x.Nodes {
			got = append(got, n.Kind)
		}
		if !slices.Equal(got, c.want) {
			t.Errorf("%d: %v, not %v", i, got, c.want)
		}
		for _, n := range x.Nodes {
			for j, v := range n.Fields {
				if was := g.Nodes[n.Kind].Fields[j]; v.Kind == api.VRef && x.Nodes[v.Ref].Kind != was.Ref || v.Kind != api.VRef && v != was {
					t.Errorf("%d: node %d, field %d: %v", i, n.Kind, j, v)
				}
			}
		}
		for j, at := range x.Roots {
			if at >= 0 && x.Nodes[at].Kind != c.roots[j] || at < 0 && (at != -1 || c.roots[j] != -1) {
				t.Errorf("%d: roots %v", i, x.Roots)
			}
		}
		if len(x.Roots) != len(c.roots) || len(x.Weaks) != 0 {
			t.Errorf("%d: %v %v", i, x.Roots, x.Weaks)
		}
	}
}

func TestTrimWeaks(t *testing.T) {
	g := api.Graph{Nodes: []api.Node{node(0, ref(1)), node(1), node(2, ref(0)), node(3), node(4, ref(3))}, Roots: []int{4, -1, 2}, Weaks: []int{0, 1, 2, 3, 4, -1, 1}}
	want := "4 [{3 0 0 0 2}];2 [{3 0 0 0 3}];3 [];0 [{3 0 0 0 4}];1 []; [0 -1 1] [3 4 1 2 0 -1 4]"
	if got := shown(graph.Trim(g)); got != want {
		t.Error(got)
	}
	g.Roots = []int{2}
	if got := graph.Trim(g); !slices.Equal(got.Weaks, []int{1, 2, 0, -1, -1, -1, 2}) {
		t.Error(got.Weaks)
	}
	g.Roots = nil // a weak root reaches nothing
	if got := graph.Trim(g); len(got.Nodes) != 0 || len(got.Roots) != 0 || !slices.Equal(got.Weaks, []int{-1, -1, -1, -1, -1, -1, -1}) {
		t.Error(shown(got))
	}
}

// TestTrimValues: of a value what its kind gives a meaning is told, all of it, and nothing else.
func TestTrimValues(t *testing.T) {
	want := []api.Value{num(math.MinInt64), num(7), pair(math.MaxUint64, callNone), pair(0, minusZero), {}, ref(0)}
	g := api.Graph{Nodes: []api.Node{{}, {Kind: math.MinInt}}, Roots: []int{1}}
	for _, v := range want {
		v = littered(v)
		if v.Kind == api.VRef {
			v.Ref = 1
		}
		g.Nodes[1].Fields = append(g.Nodes[1].Fields, v)
	}
	x := graph.Trim(g)
	if len(x.Nodes) != 1 || x.Nodes[0].Kind != math.MinInt || !slices.Equal(x.Nodes[0].Fields, want) {
		t.Error(shown(x))
	}
}

func TestTrimOfNone(t *testing.T) {
	for i, g := range mayNot() {
		if x := graph.Trim(g); len(x.Nodes)+len(x.Roots)+len(x.Weaks) != 0 {
			t.Errorf("%d: %s", i, shown(x))
		}
	}
}

// TestTrimTwice: what is trimmed may be, holds what roots reach alone, and trims to itself.
func TestTrimTwice(t *testing.T) {
	r := rolls(2)
	for range 3000 {
		g := r.small(1 + r.below(9))
		x := graph.Trim(g)
		count := 0
		for _, is := range reached(g, g.Roots) {
			if is {
				count++
			}
		}
		if !graph.May(x) || len(x.Nodes) != count || slices.Contains(reached(x, x.Roots), false) {
			t.Fatalf("%s: %s", shown(g), shown(x))
		}
		if twice := graph.Trim(x); shown(twice) != shown(x) {
			t.Fatalf("%s: %s", shown(x), shown(twice))
		}
	}
}

// P12.3

func TestAlikeByHand(t *testing.T) {
	base := func() api.Graph {
		return api.Graph{Nodes: []api.Node{node(0, num(1), api.Value{}), node(1, ref(0), pair(0, 0), ref(2)), node(0, num(1), ref(1)), node(5)}, Roots: []int{1, -1}, Weaks: []int{0, 3}}
	}
	for i, same := range []func(g *api.Graph){
		func(g *api.Graph) {},
		func(g *api.Graph) { g.Nodes[3] = node(6, num(9), ref(0)) },
		func(g *api.Graph) { g.Nodes = append(g.Nodes, node(7)) },
		func(g *api.Graph) { g.Nodes, g.Weaks[1] = g.Nodes[:3], -1 },
		func(g *api.Graph) { g.Nodes[0].Fields[1] = littered(api.Value{}) },
		func(g *api.Graph) { g.Nodes[0].Fields[0] = littered(num(1)) },
		func(g *api.Graph) { g.Nodes[1].Fields[1] = littered(pair(0, 0)) },
		func(g *api.Graph) { g.Nodes[1].Fields[2] = littered(ref(2)) },
	} {
		a, b := base(), base()
		same(&b)
		if !graph.Alike(a, b) || !graph.Alike(b, a) {
			t.Errorf("alike %d", i)
		}
	}
	for i, turn := range []func(g *api.Graph){
		func(g *api.Graph) { g.Nodes[0].Kind = 2 },
		func(g *api.Graph) { g.Nodes[2].Kind = 1 << 32 },
		func(g *api.Graph) { g.Nodes[0].Fields[0] = num(2) },
		func(g *api.Graph) { g.Nodes[0].Fields[0] = num(1 + 1<<32) },
		func(g *api.Graph) { g.Nodes[0].Fields[1] = num(0) },
		func(g *api.Graph) { g.Nodes[0].Fields[0] = pair(1, 0) },
		func(g *api.Graph) { g.Nodes[0].Fields = g.Nodes[0].Fields[:1] },
		func(g *api.Graph) { g.Nodes[0].Fields = append(g.Nodes[0].Fields, api.Value{}) },
		func(g *api.Graph) { g.Nodes[1].Fields[1] = pair(minusZero, 0) },
		func(g *api.Graph) { g.Nodes[1].Fields[1] = pair(0, minusZero) },
		func(g *api.Graph) { g.Nodes[1].Fields[0], g.Nodes[1].Fields[2] = ref(2), ref(0) },
		func(g *api.Graph) { g.Nodes[1].Fields[2] = ref(0) },
		func(g *api.Graph) { g.Nodes[2].Fields[1] = ref(0) },
		func(g *api.Graph) { g.Nodes[2].Fields[1] = api.Value{} },
		func(g *api.Graph) { g.Roots = g.Roots[:1] },
		func(g *api.Graph) { g.Roots = append(g.Roots, -1) },
		func(g *api.Graph) { g.Roots[0], g.Roots[1] = -1, 1 },
		func(g *api.Graph) { g.Roots[1] = 1 },
		func(g *api.Graph) { g.Roots[1] = 3 },
		func(g *api.Graph) { g.Weaks = g.Weaks[:1] },
		func(g *api.Graph) { g.Weaks = append(g.Weaks, -1) },
		func(g *api.Graph) { g.Weaks[0] = -1 },
		func(g *api.Graph) { g.Weaks[0] = 2 },
		func(g *api.Graph) { g.Weaks[1] = 1 },
	} {
		a, b := base(), base()
		turn(&b)
		if graph.Alike(a, b) || graph.Alike(b, a) || !graph.May(b) {
			t.Errorf("not alike %d", i)
		}
	}
}

// TestAlikeNone: what is not a number is the same as itself, bit by bit, and another than one of other bits.
func TestAlikeNone(t *testing.T) {
	of := func(re, im uint64) api.Graph {
		return api.Graph{Nodes: []api.Node{node(0, pair(re, im))}, Roots: []int{0}}
	}
	if !graph.Alike(of(callNone, 1), of(callNone, 1)) || graph.Alike(of(callNone, 1), of(callNone+1, 1)) || graph.Alike(of(1, callNone), of(1, callNone+1)) {
		t.Error("not a number")
	}
}

func TestAlikeOfNone(t *testing.T) {
	for i, g := range mayNot() {
		if graph.Alike(g, g) || graph.Alike(g, api.Graph{}) || graph.Alike(api.Graph{}, g) || graph.Alike(g, graph.Trim(g)) {
			t.Errorf("%d", i)
		}
	}
	ok := api.Graph{Nodes: []api.Node{node(0)}, Roots: []int{0}}
	bad := copyOf(ok)
	bad.Nodes = append(bad.Nodes, node(1, ref(9))) // no root reaches the fault
	if graph.Alike(ok, bad) || graph.Alike(bad, ok) {
		t.Error("unreached")
	}
}

func TestTextByHand(t *testing.T) {
	for _, c := range []struct {
		g    api.Graph
		want string
	}{
		{api.Graph{}, "roots\nweaks\n"},
		{api.Graph{Nodes: []api.Node{{}}}, "0\nroots\nweaks\n"},
		{api.Graph{Nodes: []api.Node{{Kind: -7}}, Roots: []int{-1}, Weaks: []int{0}}, "-7\nroots -1\nweaks 0\n"},
		{api.Graph{Nodes: []api.Node{node(0, num(1)), node(0, ref(0), num(2))}, Roots: []int{1}}, "0 1\n0 #0 2\nroots 1\nweaks\n"},
		{api.Graph{Weaks: []int{-1, -1}}, "roots\nweaks -1 -1\n"},
		{
			api.Graph{Nodes: []api.Node{node(math.MaxInt, littered(api.Value{}), littered(num(math.MinInt64)), num(0)), node(12, littered(pair(0x0123456789abcdef, 10)), pair(math.MaxUint64, 0), littered(ref(1)))}, Roots: []int{1, 0, -1}, Weaks: []int{-1, 1}},
			"9223372036854775807 nil -9223372036854775808 0\n12 c0123456789abcdef,000000000000000a cffffffffffffffff,0000000000000000 #1\nroots 1 0 -1\nweaks -1 1\n",
		},
	} {
		if got := graph.Text(c.g); got != c.want {
			t.Errorf("%q, not %q", got, c.want)
		}
	}
}

func TestTextOfNone(t *testing.T) {
	for i, g := range mayNot() {
		if got := graph.Text(g); got != "" {
			t.Errorf("%d: %.200q", i, got)
		}
	}
}

// TestTextsOfTrimmed: graphs are alike where the texts of what is trimmed are the same.
func TestTextsOfTrimmed(t *testing.T) {
	r := rolls(3)
	alike := 0
	for range 40000 {
		a, b := r.small(1+r.below(2)), r.small(1+r.below(2))
		want := graph.Text(graph.Trim(a)) == graph.Text(graph.Trim(b))
		if graph.Alike(a, b) != want {
			t.Fatalf("%s, %s: not %v", shown(a), shown(b), want)
		}
		if want {
			alike++
		}
	}
	if alike < 100 {
		t.Error("too few alike:", alike)
	}
}

// P12.4

// matched looks for nodes of b that do for those that a's roots reach, going over all orders: no walk's order is in it.
func matched(a, b api.Graph, all [][]int) bool {
	inA, inB := reached(a, a.Roots), reached(b, b.Roots)
	return slices.ContainsFunc(all, func(to []int) bool { return matches(a, b, inA, inB, to) })
}

func matches(a, b api.Graph, inA, inB []bool, to []int) bool {
	same := func(x, y int, weak bool) bool {
		if weak && x >= 0 && !inA[x] {
			x = -1
		}
		if weak && y >= 0 && !inB[y] {
			y = -1
		}
		return x < 0 && y < 0 || x >= 0 && y >= 0 && to[x] == y
	}
	rows := func(x, y []int, weak bool) bool {
		return slices.EqualFunc(x, y, func(x, y int) bool { return same(x, y, weak) })
	}
	if !rows(a.Roots, b.Roots, false) || !rows(a.Weaks, b.Weaks, true) {
		return false
	}
	for i, is := range inA {
		if is != inB[to[i]] {
			return false
		}
		if is && !matchNodes(a.Nodes[i], b.Nodes[to[i]], to) {
			return false
		}
	}
	return true
}

func matchNodes(a, b api.Node, to []int) bool {
	return a.Kind == b.Kind && slices.EqualFunc(a.Fields, b.Fields, func(v, u api.Value) bool {
		switch {
		case v.Kind != u.Kind:
			return false
		case v.Kind == api.VInt:
			return v.Int == u.Int
		case v.Kind == api.VComplex:
			return v.Re == u.Re && v.Im == u.Im
		case v.Kind == api.VRef:
			return to[v.Ref] == u.Ref
		}
		return true
	})
}

func TestAlikeIsAMatch(t *testing.T) {
	r := rolls(4)
	alike := 0
	for n := 1; n <= 4; n++ {
		all := orders(n)
		for range 15000 {
			a, b := r.small(n), r.small(n)
			if r.below(2) == 0 { // a copy with a small fault, or none
				b = renumbered(a, all[r.below(len(all))])
				at := r.below(n)
				if fields := b.Nodes[at].Fields; len(fields) > 0 && r.below(2) == 0 {
					fields[r.below(len(fields))] = r.value(n)
				}
			}
			want := matched(a, b, all)
			if graph.Alike(a, b) != want || graph.Alike(b, a) != want {
				t.Fatalf("%s, %s: not %v", shown(a), shown(b), want)
			}
			if want {
				alike++
			}
		}
	}
	if alike < 1000 {
		t.Error("too few alike:", alike)
	}
}

func TestAlikeItself(t *testing.T) {
	for i, g := range may() {
		if !graph.Alike(g, g) || !graph.Alike(g, graph.Trim(g)) || !graph.Alike(graph.Trim(g), g) {
			t.Errorf("%d", i)
		}
	}
}

func TestAlikeGoesOn(t *testing.T) {
	r := rolls(5)
	var all []api.Graph
	for range 150 {
		all = append(all, r.small(1+r.below(2)))
	}
	for _, a := range all {
		for _, b := range all {
			if graph.Alike(a, b) != graph.Alike(b, a) {
				t.Fatalf("%s, %s: one way", shown(a), shown(b))
			}
			if !graph.Alike(a, b) {
				continue
			}
			for _, c := range all {
				if graph.Alike(b, c) != graph.Alike(a, c) {
					t.Fatalf("%s, %s, %s", shown(a), shown(b), shown(c))
				}
			}
		}
	}
}

func TestAlikeOfOtherNumbers(t *testing.T) {
	r := rolls(6)
	for range 2000 {
		g := r.small(1 + r.below(7))
		to := make([]int, 0, len(g.Nodes))
		for i := range g.Nodes {
			to = slices.Insert(to, r.below(i+1), i)
		}
		other := renumbered(g, to)
		other.Nodes = append(other.Nodes, node(99, ref(0)), node(98, num(5)))
		is := reached(other, other.Roots)
		for i := range other.Nodes {
			if !is[i] {
				other.Nodes[i] = node(r.below(9), r.value(len(other.Nodes)), ref(i))
			}
		}
		if !graph.Alike(g, other) || !graph.Alike(other, g) || shown(graph.Trim(g)) != shown(graph.Trim(other)) {
			t.Fatalf("%s, %s", shown(g), shown(other))
		}
	}
}

// R2

func TestGraphsStay(t *testing.T) {
	for i, g := range append(may(), mayNot()...) {
		was := copyOf(g)
		from := []int{0, -1, 9}
		graph.May(g)
		graph.Reach(g, from)
		graph.Trim(g)
		graph.Alike(g, g)
		graph.Text(g)
		if shown(g) != shown(was) || !slices.Equal(from, []int{0, -1, 9}) {
			t.Errorf("%d: changed", i)
		}
	}
}

// TestBehindLengths: what lies behind a list's length is not read, nor written.
func TestBehindLengths(t *testing.T) {
	bad := []api.Value{{Kind: 9}, ref(77)}
	fields := append([]api.Value{ref(1)}, bad...)
	nodes := []api.Node{node(0, fields[:1]...), node(1), node(2, bad...)}
	nodes[0].Fields = fields[:1]
	roots, weaks, from := []int{0, 55, 56}, []int{1, 57, 58}, []int{1, 0, 0}
	g := api.Graph{Nodes: nodes[:2], Roots: roots[:1], Weaks: weaks[:1]}
	x := graph.Trim(g)
	if !graph.May(g) || shown(x) != "0 [{3 0 0 0 1}];1 []; [0] [1]" || !graph.Alike(g, x) || graph.Text(g) != "0 #1\n1\nroots 0\nweaks 1\n" || !slices.Equal(graph.Reach(g, from[:1]), []bool{false, true}) {
		t.Error(shown(x))
	}
	if !slices.Equal(fields[1:], bad) || !reflect.DeepEqual(nodes[2].Fields, bad) || !slices.Equal(roots, []int{0, 55, 56}) || !slices.Equal(weaks, []int{1, 57, 58}) || !slices.Equal(from, []int{1, 0, 0}) {
		t.Error("written")
	}
}

// TestAnswersAreTheCallers: an answer shares no memory with what was handed in, nor do two of its lists.
func TestAnswersAreTheCallers(t *testing.T) {
	shared := []api.Value{num(1), ref(0)}
	places := []int{0, 1, -1}
	g := api.Graph{Nodes: []api.Node{node(0), node(1)}, Roots: places, Weaks: places}
	g.Nodes[0].Fields, g.Nodes[1].Fields = shared, shared
	was := shown(g)
	x := graph.Trim(g)
	want := shown(x)
	if want != "0 [{1 1 0 0 0} {3 0 0 0 0}];1 [{1 1 0 0 0} {3 0 0 0 0}]; [0 1 -1] [0 1 -1]" {
		t.Fatal(want)
	}
	_ = append(x.Nodes[0].Fields, num(8))
	_ = append(x.Roots, 8)
	_ = append(x.Weaks, 8)
	if shown(x) != want {
		t.Error("behind a length", shown(x))
	}
	x.Nodes[0].Fields[0] = num(9)
	x.Roots[0] = 9
	if got := shown(x); got != "0 [{1 9 0 0 0} {3 0 0 0 0}];1 [{1 1 0 0 0} {3 0 0 0 0}]; [9 1 -1] [0 1 -1]" {
		t.Error(got)
	}
	x.Nodes[1] = node(7)
	x.Weaks[1] = 9
	reach := graph.Reach(g, []int{0})
	reach[0] = false
	if shown(g) != was || shown(graph.Trim(g)) != want || !graph.Reach(g, []int{0})[0] {
		t.Error("shared", shown(g))
	}
}
