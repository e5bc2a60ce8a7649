package vheap_test

import (
	"math"
	"slices"
	"testing"

	"scullion/api"
	"scullion/vheap"
)

const room = 64

func num(n int64) api.Value { return api.Value{Kind: api.VInt, Int: n} }

func parts(re, im uint64) api.Value { return api.Value{Kind: api.VComplex, Re: re, Im: im} }

func ref(n int) api.Value { return api.Value{Kind: api.VRef, Ref: n} }

// kinds: 0 an int, 1 a ref, a complex, an int and a ref, 2 two refs, 3 none that may be.
func kinds() []api.Kind {
	return []api.Kind{
		{Fields: []int{api.VInt}},
		{Fields: []int{api.VRef, api.VComplex, api.VInt, api.VRef}},
		{Fields: []int{api.VRef, api.VRef}},
		{Fields: []int{api.VInt, api.VNil}},
	}
}

func made(t *testing.T, h *vheap.Heap, kind, want int) {
	t.Helper()
	if o, err := h.Make(kind); o != want || err != api.OK {
		t.Fatalf("Make(%d): %d %d, want %d", kind, o, err, want)
	}
}

func refused(t *testing.T, h *vheap.Heap, kind int, want api.Errno) {
	t.Helper()
	if o, err := h.Make(kind); o != 0 || err != want {
		t.Fatalf("Make(%d): %d %d, want 0 %d", kind, o, err, want)
	}
}

func there(t *testing.T, h *vheap.Heap, want ...int) {
	t.Helper()
	if all := h.All(); !slices.Equal(all, want) || h.Len() != len(want) {
		t.Fatalf("All %v, Len %d, want %v", all, h.Len(), want)
	}
}

func set(t *testing.T, h *vheap.Heap, o, field int, v api.Value, want api.Errno) {
	t.Helper()
	if err := h.Set(o, field, v); err != want {
		t.Fatalf("Set(%d, %d, %v): %d, want %d", o, field, v, err, want)
	}
}

func holds(t *testing.T, h *vheap.Heap, o int, want ...api.Value) {
	t.Helper()
	for i, w := range want {
		if v, err := h.Get(o, i); v != w || err != api.OK {
			t.Fatalf("Get(%d, %d): %v %d, want %v", o, i, v, err, w)
		}
	}
	for _, i := range []int{-1, len(want), math.MinInt, math.MaxInt} {
		if v, err := h.Get(o, i); v != (api.Value{}) || err != api.ErrIndex {
			t.Fatalf("Get(%d, %d): %v %d", o, i, v, err)
		}
	}
}

func refs(t *testing.T, h *vheap.Heap, o int, want ...int) {
	t.Helper()
	if got := h.Refs(o); !slices.Equal(got, want) {
		t.Fatalf("Refs(%d): %v, want %v", o, got, want)
	}
}

// full is a heap of 64 objects of kind 2.
func full(t *testing.T) *vheap.Heap {
	t.Helper()
	h := vheap.New(kinds())
	for i := range room {
		made(t, h, 2, -1-i)
	}
	return h
}

// notThere are numbers of which no heap has an object: lasting ones, and places that there are not.
func notThere() []int {
	return []int{0, 1, 63, 64, math.MaxInt, -65, -66, math.MinInt, math.MinInt + 1}
}

// P14.1

func TestNew(t *testing.T) {
	h := vheap.New(kinds())
	there(t, h)
	if h.All() != nil && len(h.All()) != 0 {
		t.Error(h.All())
	}
	for _, none := range [][]api.Kind{nil, {}} {
		h := vheap.New(none)
		there(t, h)
		refused(t, h, 0, api.ErrType)
	}
}

func TestNewKeepsNothing(t *testing.T) {
	ks := kinds()
	h, g := vheap.New(ks), vheap.New(ks)
	ks[0].Fields[0] = api.VRef
	ks[2] = api.Kind{Fields: []int{api.VInt}}
	made(t, h, 0, -1)
	made(t, h, 2, -2)
	holds(t, h, -1, num(0))
	holds(t, h, -2, api.Value{}, api.Value{})
	there(t, g)
	made(t, g, 1, -1)
	if k, err := h.Kind(-1); k != 0 || err != api.OK {
		t.Error(k, err)
	}
}

func TestNewLeavesItsKinds(t *testing.T) {
	fields := []int{api.VRef, api.VInt, 77}
	ks := []api.Kind{{Fields: fields[:2]}, {Fields: []int{9}}}[:1]
	h := vheap.New(ks)
	made(t, h, 0, -1)
	refused(t, h, 1, api.ErrType)
	set(t, h, -1, 0, ref(3), api.OK)
	set(t, h, -1, 2, num(3), api.ErrIndex)
	if !slices.Equal(fields, []int{api.VRef, api.VInt, 77}) || ks[:2][1].Fields[0] != 9 {
		t.Error(fields, ks[:2])
	}
}

func TestMakeLeastPlace(t *testing.T) {
	h := vheap.New(kinds())
	made(t, h, 0, -1)
	made(t, h, 0, -2)
	if !h.Remove(-1) {
		t.Error("Remove(-1)")
	}
	made(t, h, 0, -1)
	there(t, h, -1, -2)
	h = full(t)
	for _, o := range []int{-64, -7, -30} {
		if !h.Remove(o) {
			t.Error(o)
		}
	}
	for _, o := range []int{-7, -30, -64} {
		made(t, h, 0, o)
	}
	refused(t, h, 0, api.ErrNoMem)
}

func TestMakeAtFirst(t *testing.T) {
	h := vheap.New(kinds())
	made(t, h, 1, -1)
	made(t, h, 0, -2)
	made(t, h, 2, -3)
	holds(t, h, -1, api.Value{}, parts(0, 0), num(0), api.Value{})
	holds(t, h, -2, num(0))
	holds(t, h, -3, api.Value{}, api.Value{})
	for o, want := range map[int]int{-1: 1, -2: 0, -3: 2} {
		if k, err := h.Kind(o); k != want || err != api.OK {
			t.Error(o, k, err)
		}
	}
}

func TestMakeWrong(t *testing.T) {
	h := vheap.New(kinds())
	for _, k := range []int{-1, 3, 4, 15, 16, math.MinInt, math.MaxInt} {
		refused(t, h, k, api.ErrType)
	}
	there(t, h)
	made(t, h, 0, -1)
	h = full(t)
	refused(t, h, 0, api.ErrNoMem)
	refused(t, h, 3, api.ErrType)
	refused(t, h, 4, api.ErrType)
	if h.Len() != room {
		t.Error(h.Len())
	}
}

func TestMakeKindsThatMayNotBe(t *testing.T) {
	many := make([]int, 16)
	wide := make([]int, 8)
	long := make([]int, 15)
	for i := range many {
		many[i] = api.VInt
	}
	for i := range wide {
		wide[i] = api.VComplex
	}
	for i := range long {
		long[i] = api.VRef
	}
	h := vheap.New([]api.Kind{{}, {Fields: many}, {Fields: wide}, {Fields: []int{4}}, {Fields: []int{-1}}, {Fields: long}, {Fields: wide[:7]}})
	for k := range 5 {
		refused(t, h, k, api.ErrType)
	}
	made(t, h, 5, -1)
	made(t, h, 6, -2)
	holds(t, h, -1, make([]api.Value, 15)...)
	holds(t, h, -2, slices.Repeat([]api.Value{parts(0, 0)}, 7)...)
}

func TestMakeKindsAbove15(t *testing.T) {
	h := vheap.New(slices.Repeat([]api.Kind{{Fields: []int{api.VInt}}}, 20))
	for _, k := range []int{16, 17, 19, 20} {
		refused(t, h, k, api.ErrType)
	}
	made(t, h, 15, -1)
	if k, err := h.Kind(-1); k != 15 || err != api.OK {
		t.Error(k, err)
	}
}

// P14.2

func TestStale(t *testing.T) {
	h := vheap.New(kinds())
	made(t, h, 2, -1)
	made(t, h, 2, -2)
	h.Remove(-2)
	for _, o := range append(notThere(), -2, -3, -64) {
		if k, err := h.Kind(o); k != 0 || err != api.ErrStale {
			t.Error("Kind", o, k, err)
		}
		for _, field := range []int{0, 1, -1, 2} {
			if v, err := h.Get(o, field); v != (api.Value{}) || err != api.ErrStale {
				t.Error("Get", o, v, err)
			}
			set(t, h, o, field, ref(1), api.ErrStale)
			set(t, h, o, field, num(1), api.ErrStale)
		}
		if h.Remove(o) {
			t.Error("Remove", o)
		}
		refs(t, h, o)
	}
	there(t, h, -1)
	holds(t, h, -1, api.Value{}, api.Value{})
}

func TestSet(t *testing.T) {
	h := vheap.New(kinds())
	made(t, h, 1, -1)
	made(t, h, 1, -2)
	set(t, h, -1, 0, ref(-2), api.OK)
	set(t, h, -1, 1, parts(5, 6), api.OK)
	set(t, h, -1, 2, num(math.MinInt64), api.OK)
	set(t, h, -1, 3, ref(math.MaxInt), api.OK)
	holds(t, h, -1, ref(-2), parts(5, 6), num(math.MinInt64), ref(math.MaxInt))
	holds(t, h, -2, api.Value{}, parts(0, 0), num(0), api.Value{})
	set(t, h, -1, 0, api.Value{}, api.OK)
	set(t, h, -1, 3, ref(math.MinInt), api.OK)
	holds(t, h, -1, api.Value{}, parts(5, 6), num(math.MinInt64), ref(math.MinInt))
}

func TestSetErrors(t *testing.T) {
	h := vheap.New(kinds())
	made(t, h, 1, -1)
	before := []api.Value{ref(4), parts(1, 2), num(3), api.Value{}}
	for i, v := range before {
		set(t, h, -1, i, v, api.OK)
	}
	fit := map[int][]int{0: {api.VNil, api.VRef}, 1: {api.VComplex}, 2: {api.VInt}, 3: {api.VNil, api.VRef}}
	for field := range before {
		for _, k := range []int{-1, 0, 1, 2, 3, 4, math.MinInt, math.MaxInt} {
			if !slices.Contains(fit[field], k) {
				set(t, h, -1, field, api.Value{Kind: k, Int: 9, Re: 9, Im: 9, Ref: 9}, api.ErrType)
			}
		}
	}
	for _, field := range []int{-1, 4, math.MinInt, math.MaxInt} {
		set(t, h, -1, field, num(1), api.ErrIndex)
		set(t, h, -1, field, api.Value{Kind: 9}, api.ErrIndex)
	}
	holds(t, h, -1, before...)
}

func TestSetOnlyWhatIsMeant(t *testing.T) {
	h := vheap.New(kinds())
	made(t, h, 1, -1)
	litter := api.Value{Int: 11, Re: 0x7ff0000000000001, Im: 0xfff8000000000003, Ref: -2}
	of := func(k int) api.Value {
		v := litter
		v.Kind = k
		return v
	}
	set(t, h, -1, 0, of(api.VRef), api.OK)
	set(t, h, -1, 1, of(api.VComplex), api.OK)
	set(t, h, -1, 2, of(api.VInt), api.OK)
	set(t, h, -1, 3, of(api.VNil), api.OK)
	holds(t, h, -1, ref(-2), parts(0x7ff0000000000001, 0xfff8000000000003), num(11), api.Value{})
	refs(t, h, -1, -2)
	if n := h.Move(-2, 8); n != 1 {
		t.Error(n)
	}
	holds(t, h, -1, ref(8), parts(0x7ff0000000000001, 0xfff8000000000003), num(11), api.Value{})
}

func TestSetKeepsEveryBit(t *testing.T) {
	h := vheap.New(kinds())
	made(t, h, 1, -1)
	for _, w := range []uint64{0, 1, 1 << 63, 0x7ff0000000000000, 0x7ff0000000000001, 0x7ff8000000000000, 0xfff4000000000abc, math.MaxUint64} {
		set(t, h, -1, 1, parts(w, ^w), api.OK)
		holds(t, h, -1, api.Value{}, parts(w, ^w), num(0), api.Value{})
	}
}

func TestRemove(t *testing.T) {
	h := full(t)
	set(t, h, -1, 0, ref(-2), api.OK)
	if !h.Remove(-2) || h.Remove(-2) || !h.Remove(-64) || h.Remove(-64) {
		t.Error("Remove")
	}
	if h.Len() != 62 || slices.Contains(h.All(), -2) || slices.Contains(h.All(), -64) {
		t.Error(h.All())
	}
	holds(t, h, -1, ref(-2), api.Value{})
}

func TestMove(t *testing.T) {
	h := vheap.New(kinds())
	made(t, h, 2, -1)
	made(t, h, 1, -2)
	made(t, h, 2, -3)
	set(t, h, -1, 0, ref(-3), api.OK)
	set(t, h, -1, 1, ref(-3), api.OK)
	set(t, h, -2, 2, num(-3), api.OK)
	set(t, h, -2, 3, ref(-3), api.OK)
	set(t, h, -3, 0, ref(5), api.OK)
	h.Remove(-3)
	if n := h.Move(5, 6); n != 0 {
		t.Error("of one that went", n)
	}
	if n := h.Move(-3, 5); n != 3 {
		t.Error(n)
	}
	holds(t, h, -1, ref(5), ref(5))
	holds(t, h, -2, api.Value{}, parts(0, 0), num(-3), ref(5))
	if n := h.Move(0, 9); n != 0 {
		t.Error("nil is no reference to 0:", n)
	}
	if n := h.Move(5, 5); n != 3 {
		t.Error("to itself:", n)
	}
	if n := h.Move(5, math.MinInt); n != 3 {
		t.Error(n)
	}
	if n := h.Move(math.MinInt, math.MaxInt); n != 3 {
		t.Error(n)
	}
	holds(t, h, -1, ref(math.MaxInt), ref(math.MaxInt))
	there(t, h, -1, -2)
}

// TestMoveOnce: what has moved is not moved on, and a reference that moves meets those that stood there.
func TestMoveOnce(t *testing.T) {
	h := full(t)
	for i := range room {
		set(t, h, -1-i, 0, ref(i), api.OK)
		set(t, h, -1-i, 1, ref(i+1), api.OK)
	}
	if n := h.Move(0, 1); n != 1 {
		t.Error(n)
	}
	if n := h.Move(1, 2); n != 3 {
		t.Error(n)
	}
	if n := h.Move(64, 0); n != 1 {
		t.Error(n)
	}
	refs(t, h, -1, 2, 2)
	refs(t, h, -2, 2, 2)
	refs(t, h, -64, 63, 0)
}

func TestRefs(t *testing.T) {
	h := vheap.New(kinds())
	made(t, h, 1, -1)
	made(t, h, 0, -2)
	refs(t, h, -1)
	refs(t, h, -2)
	set(t, h, -1, 3, ref(9), api.OK)
	refs(t, h, -1, 9)
	set(t, h, -1, 0, ref(-1), api.OK)
	refs(t, h, -1, -1, 9)
	set(t, h, -1, 0, ref(9), api.OK)
	refs(t, h, -1, 9, 9)
	set(t, h, -1, 0, ref(77), api.OK)
	set(t, h, -2, 0, num(4), api.OK)
	refs(t, h, -1, 77, 9)
	refs(t, h, -2)
	set(t, h, -1, 0, api.Value{}, api.OK)
	refs(t, h, -1, 9)
}

// P14.3

func TestKeep(t *testing.T) {
	h := full(t)
	set(t, h, -3, 0, ref(-9), api.OK)
	set(t, h, -9, 1, ref(-3), api.OK)
	set(t, h, -9, 0, ref(-64), api.OK)
	set(t, h, -10, 0, ref(-11), api.OK)
	set(t, h, -10, 1, ref(-3), api.OK)
	if n := h.Keep([]int{-3, -20, -3}); n != 60 {
		t.Error(n)
	}
	there(t, h, -3, -9, -20, -64)
	refs(t, h, -9, -64, -3)
	if n := h.Keep([]int{-64}); n != 3 {
		t.Error(n)
	}
	there(t, h, -64)
}

func TestKeepNothing(t *testing.T) {
	h := full(t)
	for i := range room {
		set(t, h, -1-i, 0, ref(-1-(i+1)%room), api.OK)
	}
	if n := h.Keep(append(notThere(), notThere()...)); n != room {
		t.Error(n)
	}
	there(t, h)
	if n := h.Keep(nil); n != 0 {
		t.Error(n)
	}
	h = full(t)
	if n := h.Keep([]int{}); n != room {
		t.Error(n)
	}
}

// TestKeepFar: a chain through all places, from either end and with a ring.
func TestKeepFar(t *testing.T) {
	for _, step := range []int{1, 63, 5} {
		h := full(t)
		for i := range room - 1 {
			set(t, h, -1-i*step%room, 1, ref(-1-(i+1)*step%room), api.OK)
		}
		if n := h.Keep([]int{-1}); n != 0 {
			t.Error(step, n)
		}
		last := -1 - (room-1)*step%room
		if n := h.Keep([]int{last}); n != 63 {
			t.Error(step, n)
		}
		there(t, h, last)
	}
}

func TestKeepStopsAtWhatIsNotThere(t *testing.T) {
	h := vheap.New(kinds())
	for i := range 4 {
		made(t, h, 2, -1-i)
	}
	set(t, h, -1, 0, ref(-2), api.OK)
	set(t, h, -2, 0, ref(-3), api.OK)
	set(t, h, -1, 1, ref(0), api.OK)
	set(t, h, -3, 1, ref(math.MinInt), api.OK)
	h.Remove(-2)
	if n := h.Keep([]int{-1, -2, 3}); n != 2 {
		t.Error(n)
	}
	there(t, h, -1)
	refs(t, h, -1, -2, 0)
}

func TestKeepLeavesItsList(t *testing.T) {
	h := full(t)
	set(t, h, -3, 0, ref(-9), api.OK)
	from := []int{-3, 5, -7, -11, -12}
	if n := h.Keep(from[:3]); n != 61 {
		t.Error(n)
	}
	if !slices.Equal(from, []int{-3, 5, -7, -11, -12}) {
		t.Error(from)
	}
	there(t, h, -3, -7, -9)
}

func TestKeepLongList(t *testing.T) {
	h := full(t)
	set(t, h, -3, 0, ref(-9), api.OK)
	if n := h.Keep(slices.Repeat([]int{-3, 7, -100}, 100000)); n != 62 {
		t.Error(n)
	}
	there(t, h, -3, -9)
}

func TestNil(t *testing.T) {
	var h *vheap.Heap
	refused(t, h, 0, api.ErrArg)
	if k, err := h.Kind(-1); k != 0 || err != api.ErrArg {
		t.Error(k, err)
	}
	if v, err := h.Get(-1, 0); v != (api.Value{}) || err != api.ErrArg {
		t.Error(v, err)
	}
	set(t, h, -1, 0, num(1), api.ErrArg)
	set(t, h, 1, -1, api.Value{Kind: 9}, api.ErrArg)
	if h.Remove(-1) || h.Move(1, 2) != 0 || h.Refs(-1) != nil || h.Keep(nil) != 0 || h.Keep([]int{-1}) != 0 || h.Len() != 0 || h.All() != nil {
		t.Error("nil heap")
	}
}

func TestZeroHeap(t *testing.T) {
	var h vheap.Heap
	refused(t, &h, 0, api.ErrType)
	set(t, &h, -1, 0, num(1), api.ErrStale)
	there(t, &h)
	if h.Keep([]int{-1}) != 0 || h.Move(0, 1) != 0 || h.Remove(-1) {
		t.Error("zero heap")
	}
}

// P14.4

func TestTakenAgain(t *testing.T) {
	h := vheap.New(kinds())
	made(t, h, 2, -1)
	made(t, h, 1, -2)
	set(t, h, -1, 0, ref(-2), api.OK)
	set(t, h, -2, 2, num(7), api.OK)
	set(t, h, -2, 0, ref(-1), api.OK)
	h.Remove(-2)
	made(t, h, 1, -2)
	holds(t, h, -2, api.Value{}, parts(0, 0), num(0), api.Value{})
	holds(t, h, -1, ref(-2), api.Value{})
	h.Remove(-2)
	made(t, h, 0, -2)
	if k, err := h.Kind(-2); k != 0 || err != api.OK {
		t.Error(k, err)
	}
	holds(t, h, -2, num(0))
}

func TestKeptAsItWas(t *testing.T) {
	h := vheap.New(kinds())
	for i := range room {
		made(t, h, 1, -1-i)
		set(t, h, -1-i, 1, parts(uint64(i), uint64(2*i)), api.OK)
		set(t, h, -1-i, 2, num(int64(3*i)), api.OK)
		set(t, h, -1-i, 3, ref(-1-i/2), api.OK)
	}
	if n := h.Keep([]int{-64, -47}); n != 64-12 {
		t.Error(n)
	}
	there(t, h, -1, -2, -3, -4, -6, -8, -12, -16, -24, -32, -47, -64)
	for _, o := range h.All() {
		i := -1 - o
		holds(t, h, o, api.Value{}, parts(uint64(i), uint64(2*i)), num(int64(3*i)), ref(-1-i/2))
	}
}

func TestAnswersAreTheCallers(t *testing.T) {
	h := vheap.New(kinds())
	made(t, h, 2, -1)
	made(t, h, 2, -2)
	set(t, h, -1, 0, ref(3), api.OK)
	set(t, h, -1, 1, ref(4), api.OK)
	all, list := h.All(), h.Refs(-1)
	all[0], list[0], list[1] = 99, 99, 99
	_ = append(all[:1], 5)
	there(t, h, -1, -2)
	refs(t, h, -1, 3, 4)
	held := h.All()
	h.Remove(-1)
	if !slices.Equal(held, []int{-1, -2}) {
		t.Error(held)
	}
}

// model is a heap by a map from numbers to what stands there.
type model struct {
	kinds []api.Kind
	at    map[int]*thing
}

type thing struct {
	kind   int
	fields map[int]api.Value
}

func (m *model) make(k int) (int, api.Errno) {
	if k < 0 || k >= 3 {
		return 0, api.ErrType
	}
	for p := range room {
		if m.at[-1-p] == nil {
			x := &thing{kind: k, fields: map[int]api.Value{}}
			for i, f := range m.kinds[k].Fields {
				x.fields[i] = api.Value{Kind: f}
				if f == api.VRef {
					x.fields[i] = api.Value{}
				}
			}
			m.at[-1-p] = x
			return -1 - p, api.OK
		}
	}
	return 0, api.ErrNoMem
}

func (m *model) set(o, field int, v api.Value) api.Errno {
	x := m.at[o]
	if x == nil {
		return api.ErrStale
	}
	if _, ok := x.fields[field]; !ok {
		return api.ErrIndex
	}
	want := m.kinds[x.kind].Fields[field]
	if v.Kind != want && (v.Kind != api.VNil || want != api.VRef) {
		return api.ErrType
	}
	clean := api.Value{Kind: v.Kind}
	switch v.Kind {
	case api.VInt:
		clean.Int = v.Int
	case api.VComplex:
		clean.Re, clean.Im = v.Re, v.Im
	case api.VRef:
		clean.Ref = v.Ref
	}
	x.fields[field] = clean
	return api.OK
}

func (m *model) move(from, to int) int {
	n := 0
	for _, x := range m.at {
		for i, v := range x.fields {
			if v == ref(from) {
				x.fields[i] = ref(to)
				n++
			}
		}
	}
	return n
}

func (m *model) refs(o int) []int {
	var out []int
	if x := m.at[o]; x != nil {
		for i := range len(x.fields) {
			if x.fields[i].Kind == api.VRef {
				out = append(out, x.fields[i].Ref)
			}
		}
	}
	return out
}

// keep spreads what stays until nothing more does.
func (m *model) keep(from []int) int {
	stays := map[int]bool{}
	for _, o := range from {
		stays[o] = true
	}
	for before := -1; before != len(stays); {
		before = len(stays)
		for o := range m.at {
			for _, r := range m.refs(o) {
				if stays[o] {
					stays[r] = true
				}
			}
		}
	}
	n := 0
	for p := range room {
		if o := -1 - p; m.at[o] != nil && !stays[o] {
			delete(m.at, o)
			n++
		}
	}
	return n
}

func (m *model) all() []int {
	var out []int
	for p := range room {
		if m.at[-1-p] != nil {
			out = append(out, -1-p)
		}
	}
	return out
}

// likeModel holds all that the heap tells against the model.
func likeModel(t *testing.T, h *vheap.Heap, m *model) {
	t.Helper()
	there(t, h, m.all()...)
	for o := -room - 1; o <= 1; o++ {
		refs(t, h, o, m.refs(o)...)
		k, err := h.Kind(o)
		x := m.at[o]
		if x == nil {
			if k != 0 || err != api.ErrStale {
				t.Fatal(o, k, err)
			}
			continue
		}
		if k != x.kind || err != api.OK {
			t.Fatal(o, k, err)
		}
		var want []api.Value
		for i := range len(x.fields) {
			want = append(want, x.fields[i])
		}
		holds(t, h, o, want...)
	}
}

type dice uint64

func (d *dice) below(n int) int {
	*d = *d*6364136223846793005 + 1442695040888963407
	return int(uint64(*d>>33) % uint64(n))
}

func (d *dice) value() api.Value {
	return api.Value{Kind: d.below(5), Int: int64(d.below(9)), Re: uint64(d.below(9)), Im: uint64(d.below(9)), Ref: d.below(80) - 70}
}

func TestLongRuns(t *testing.T) {
	for seed := range 30 {
		d := dice(seed)
		h, m := vheap.New(kinds()), &model{kinds(), map[int]*thing{}}
		for step := range 1500 {
			oneStep(t, h, m, &d, seed)
			if step%50 == 0 {
				likeModel(t, h, m)
			}
		}
		likeModel(t, h, m)
	}
}

func oneStep(t *testing.T, h *vheap.Heap, m *model, d *dice, seed int) {
	t.Helper()
	o := -d.below(70)
	switch x := d.below(100); {
	case x < 35:
		k := d.below(5) - 1
		want, wantErr := m.make(k)
		if got, err := h.Make(k); got != want || err != wantErr {
			t.Fatalf("seed %d: Make(%d): %d %d, want %d %d", seed, k, got, err, want, wantErr)
		}
	case x < 75:
		field, v := d.below(6)-1, d.value()
		if got, want := h.Set(o, field, v), m.set(o, field, v); got != want {
			t.Fatalf("seed %d: Set(%d, %d, %v): %d, want %d", seed, o, field, v, got, want)
		}
	case x < 85+seed%10:
		_, was := m.at[o]
		delete(m.at, o)
		if h.Remove(o) != was {
			t.Fatalf("seed %d: Remove(%d): want %v", seed, o, was)
		}
	case x < 98:
		to := d.below(80) - 70
		if got, want := h.Move(o, to), m.move(o, to); got != want {
			t.Fatalf("seed %d: Move(%d, %d): %d, want %d", seed, o, to, got, want)
		}
	default:
		from := make([]int, d.below(40))
		for i := range from {
			from[i] = d.below(80) - 70
		}
		if got, want := h.Keep(from), m.keep(from); got != want {
			t.Fatalf("seed %d: Keep(%v): %d, want %d", seed, from, got, want)
		}
	}
}
