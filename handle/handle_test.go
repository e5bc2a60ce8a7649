package handle_test

import (
	"math"
	"slices"
	"testing"

	"scullion/api"
	"scullion/handle"
)

const room = 64

// model is a table by lists: which handle was told for which object, and how often each slot was dropped.
type model struct {
	held map[int]int // by handle: the object
	ages [room]int
}

func newModel() *model {
	return &model{held: map[int]int{}}
}

func (m *model) put(obj int) (int, api.Errno) {
	for s := range room {
		if _, ok := m.held[m.ages[s]*room+s]; !ok {
			m.held[m.ages[s]*room+s] = obj
			return m.ages[s]*room + s, api.OK
		}
	}
	return 0, api.ErrMany
}

func (m *model) get(h int) (int, api.Errno) {
	obj, ok := m.held[h]
	if !ok {
		return 0, api.ErrStale
	}
	return obj, api.OK
}

func (m *model) drop(h int) api.Errno {
	if _, ok := m.held[h]; !ok {
		return api.ErrStale
	}
	delete(m.held, h)
	m.ages[h%room]++
	return api.OK
}

func (m *model) move(from, to int) int {
	n := 0
	for h, obj := range m.held {
		if obj == from {
			m.held[h] = to
			n++
		}
	}
	return n
}

func (m *model) all() []int {
	var out []int
	for s := range room {
		if obj, ok := m.held[m.ages[s]*room+s]; ok {
			out = append(out, obj)
		}
	}
	return out
}

// full is a table whose handles 0 to 63 stand for 100 and on.
func full(t *testing.T) *handle.Table {
	t.Helper()
	x := handle.New()
	for i := range room {
		if h, err := x.Put(100 + i); h != i || err != api.OK {
			t.Fatalf("Put %d: %d %d", i, h, err)
		}
	}
	return x
}

// same holds a table against a model by every call that asks.
func same(t *testing.T, x *handle.Table, m *model, asked []int) {
	t.Helper()
	if all := x.All(); !slices.Equal(all, m.all()) || x.Len() != len(m.held) {
		t.Fatalf("All %v, Len %d, not %v", all, x.Len(), m.all())
	}
	for _, h := range asked {
		obj, err := x.Get(h)
		if wantObj, wantErr := m.get(h); obj != wantObj || err != wantErr {
			t.Fatalf("Get(%d): %d %d, not %d %d", h, obj, err, wantObj, wantErr)
		}
	}
}

// wrong is handles that no table whose slots were dropped at most some thousand times has told.
func wrong() []int {
	return []int{-1, -2, -63, -64, -65, -128, math.MinInt, math.MinInt + 1, math.MinInt + 64, math.MaxInt, math.MaxInt - 63, math.MaxInt - 64, 1 << 32, 1 << 62, 1<<32 + 1, 1<<38 + 5}
}

// P13.1

func TestExample(t *testing.T) {
	x := handle.New()
	if h, err := x.Put(7); h != 0 || err != api.OK {
		t.Error(h, err)
	}
	if err := x.Drop(0); err != api.OK {
		t.Error(err)
	}
	if h, err := x.Put(8); h != 64 || err != api.OK {
		t.Error(h, err)
	}
	if obj, err := x.Get(0); obj != 0 || err != api.ErrStale {
		t.Error(obj, err)
	}
	if obj, err := x.Get(64); obj != 8 || err != api.OK {
		t.Error(obj, err)
	}
}

func TestEachPutIsAHandleOfItsOwn(t *testing.T) {
	x := handle.New()
	for i := range 5 {
		if h, err := x.Put(-3); h != i || err != api.OK {
			t.Error(i, h, err)
		}
	}
	if x.Drop(2) != api.OK || x.Len() != 4 {
		t.Error("one is dropped alone:", x.All())
	}
	for _, h := range []int{0, 1, 3, 4} {
		if obj, err := x.Get(h); obj != -3 || err != api.OK {
			t.Error(h, obj, err)
		}
	}
}

func TestAnyNumberIsAnObject(t *testing.T) {
	x := handle.New()
	objs := []int{0, -1, -64, 511, math.MinInt, math.MaxInt}
	for i, obj := range objs {
		if h, err := x.Put(obj); h != i || err != api.OK {
			t.Error(obj, h, err)
		}
	}
	for i, obj := range objs {
		if got, err := x.Get(i); got != obj || err != api.OK {
			t.Error(obj, got, err)
		}
	}
	if !slices.Equal(x.All(), objs) {
		t.Error(x.All())
	}
}

func TestFull(t *testing.T) {
	x := full(t)
	before := x.All()
	for range 3 {
		if h, err := x.Put(7); h != 0 || err != api.ErrMany {
			t.Error(h, err)
		}
	}
	if !slices.Equal(x.All(), before) || x.Len() != room {
		t.Error("an error changes nothing:", x.All())
	}
	if obj, err := x.Get(63); obj != 163 || err != api.OK {
		t.Error(obj, err)
	}
}

func TestLeastSlot(t *testing.T) {
	x := full(t)
	for _, h := range []int{63, 5, 17, 0} {
		if err := x.Drop(h); err != api.OK {
			t.Error(h, err)
		}
	}
	for _, want := range []int{64, 69, 81, 127} {
		if h, err := x.Put(1); h != want || err != api.OK {
			t.Error(want, h, err)
		}
	}
	if _, err := x.Put(1); err != api.ErrMany {
		t.Error(err)
	}
}

func TestEachSlotHasAnAgeOfItsOwn(t *testing.T) {
	x := full(t)
	for s := range room {
		for n := range s % 5 {
			if err := x.Drop(n*room + s); err != api.OK {
				t.Error(s, n, err)
			}
			if h, err := x.Put(s); h != (n+1)*room+s || err != api.OK {
				t.Error(s, n, h, err)
			}
		}
	}
	for s := range room {
		for n := range 7 {
			_, err := x.Get(n*room + s)
			if (err == api.OK) != (n == s%5) {
				t.Error(s, n, err)
			}
		}
	}
}

func TestDropLeavesNothing(t *testing.T) {
	x := handle.New()
	x.Put(7)
	x.Put(9)
	if x.Drop(0) != api.OK || x.Drop(0) != api.ErrStale {
		t.Error("Drop")
	}
	// The slot is free and its age is 1, but no Put told this handle.
	if _, err := x.Get(64); err != api.ErrStale || x.Drop(64) != api.ErrStale {
		t.Error("a handle that is not told yet")
	}
	if x.Len() != 1 || !slices.Equal(x.All(), []int{9}) || x.Move(7, 8) != 0 || x.Move(0, 8) != 0 {
		t.Error(x.All())
	}
	// What was refused has made no slot older.
	if h, err := x.Put(7); h != 64 || err != api.OK {
		t.Error(h, err)
	}
}

func TestStale(t *testing.T) {
	for _, x := range []*handle.Table{handle.New(), full(t), {}} {
		before := x.All()
		for _, h := range append(wrong(), 64, 65, 127, 128) {
			if obj, err := x.Get(h); obj != 0 || err != api.ErrStale {
				t.Error(h, obj, err)
			}
			if err := x.Drop(h); err != api.ErrStale {
				t.Error(h, err)
			}
		}
		if !slices.Equal(x.All(), before) {
			t.Error("an error changes nothing:", x.All())
		}
	}
	for h := range room {
		if _, err := handle.New().Get(h); err != api.ErrStale {
			t.Error("nothing was put:", h, err)
		}
	}
}

// P13.2

func TestMove(t *testing.T) {
	x := handle.New()
	for _, obj := range []int{-1, 4, -1, 0, -2, -1} {
		x.Put(obj)
	}
	x.Drop(2)
	steps := []struct {
		from, to, moved int
		all             []int
	}{
		{-1, 9, 2, []int{9, 4, 0, -2, 9}},
		{-1, 9, 0, []int{9, 4, 0, -2, 9}},
		{9, 9, 2, []int{9, 4, 0, -2, 9}},
		{9, 4, 2, []int{4, 4, 0, -2, 4}},
		{4, 0, 3, []int{0, 0, 0, -2, 0}},
		{0, math.MinInt, 4, []int{math.MinInt, math.MinInt, math.MinInt, -2, math.MinInt}},
		{5, 6, 0, []int{math.MinInt, math.MinInt, math.MinInt, -2, math.MinInt}},
	}
	for _, s := range steps {
		if n := x.Move(s.from, s.to); n != s.moved || !slices.Equal(x.All(), s.all) {
			t.Error(s, n, x.All())
		}
	}
	if obj, err := x.Get(2); obj != 0 || err != api.ErrStale {
		t.Error("a handle that was dropped is not moved:", obj, err)
	}
	if h, err := x.Put(3); h != 66 || err != api.OK {
		t.Error("a move makes no slot older:", h, err)
	}
}

func TestMoveAll(t *testing.T) {
	x := handle.New()
	for range room {
		x.Put(5)
	}
	if x.Move(5, 6) != room || x.Move(5, 6) != 0 || x.Len() != room {
		t.Error(x.All())
	}
	for h := range room {
		if obj, err := x.Get(h); obj != 6 || err != api.OK {
			t.Error(h, obj, err)
		}
	}
}

func TestAllIsBySlot(t *testing.T) {
	x := full(t)
	for h := range room {
		if h%3 != 1 {
			x.Drop(h)
		}
	}
	x.Put(-9)
	want := []int{-9}
	for h := range room {
		if h%3 == 1 {
			want = append(want, 100+h)
		}
	}
	if !slices.Equal(x.All(), want) || x.Len() != len(want) {
		t.Error(x.All(), want)
	}
}

func TestEmpty(t *testing.T) {
	for _, x := range []*handle.Table{handle.New(), {}} {
		if x.Len() != 0 || len(x.All()) != 0 || x.Move(0, 1) != 0 {
			t.Error(x.All())
		}
		if h, err := x.Put(3); h != 0 || err != api.OK {
			t.Error(h, err)
		}
	}
}

func TestNilTable(t *testing.T) {
	var x *handle.Table
	for _, n := range append(wrong(), 0, 1, 64) {
		if h, err := x.Put(n); h != 0 || err != api.ErrArg {
			t.Error(h, err)
		}
		if obj, err := x.Get(n); obj != 0 || err != api.ErrArg {
			t.Error(obj, err)
		}
		if err := x.Drop(n); err != api.ErrArg {
			t.Error(err)
		}
		if x.Move(n, 1) != 0 {
			t.Error("Move")
		}
	}
	if x.Len() != 0 || x.All() != nil {
		t.Error(x.Len(), x.All())
	}
}

// P13.3

func TestStaleForEver(t *testing.T) {
	x := handle.New()
	x.Put(-1)
	x.Put(4)
	for n := range 1000 {
		h := n * room
		if obj, err := x.Get(h); obj != -1 || err != api.OK {
			t.Fatal(h, obj, err)
		}
		x.Drop(h)
		if got, err := x.Put(-1); got != h+room || err != api.OK {
			t.Fatal(h, got, err)
		}
		for old := 0; old <= h; old += room {
			if _, err := x.Get(old); err != api.ErrStale {
				t.Fatal(old, err)
			}
		}
		if err := x.Drop(h); err != api.ErrStale {
			t.Fatal(h, err)
		}
	}
	if obj, err := x.Get(1); obj != 4 || err != api.OK {
		t.Error(obj, err)
	}
}

// TestAgainstModel: long runs of calls, at every share of puts and drops.
func TestAgainstModel(t *testing.T) {
	seed := uint64(1)
	next := func(n int) int {
		seed = seed*6364136223846793005 + 1442695040888963407
		return int(seed>>33) % n
	}
	for share := 1; share < 10; share++ {
		x, m := handle.New(), newModel()
		told := wrong()
		for range 1500 {
			switch {
			case next(8) == 0:
				from, to := next(12)-6, next(12)-6
				if n, want := x.Move(from, to), m.move(from, to); n != want {
					t.Fatal(from, to, n, want)
				}
			case next(10) < share:
				obj := next(12) - 6
				h, err := x.Put(obj)
				if wantH, wantErr := m.put(obj); h != wantH || err != wantErr {
					t.Fatal(h, err, wantH, wantErr)
				}
				told = append(told, h, h+room, h-room)
			default:
				h := told[next(len(told))]
				if err, want := x.Drop(h), m.drop(h); err != want {
					t.Fatal(h, err, want)
				}
			}
			same(t, x, m, told[max(0, len(told)-200):])
		}
		same(t, x, m, told)
	}
}

// R2

func TestMemory(t *testing.T) {
	x, y := handle.New(), handle.New()
	x.Put(1)
	x.Put(2)
	y.Put(3)
	a, b := x.All(), x.All()
	a[0], a = 77, append(a[:1], 78)
	if !slices.Equal(b, []int{1, 2}) || !slices.Equal(x.All(), []int{1, 2}) || a[1] != 78 {
		t.Error("what is told is the caller's:", b, x.All())
	}
	x.Move(1, 9)
	x.Drop(1)
	if !slices.Equal(b, []int{1, 2}) || !slices.Equal(y.All(), []int{3}) {
		t.Error("what was told stays, and tables keep to themselves:", b, y.All())
	}
}

func TestCopyOfTheStruct(t *testing.T) {
	x := handle.New()
	x.Put(1)
	y := *x
	y.Put(2)
	y.Drop(0)
	if obj, err := x.Get(0); obj != 1 || err != api.OK || x.Len() != 1 || y.Len() != 1 {
		t.Error(obj, err, x.All(), y.All())
	}
}
