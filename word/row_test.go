package word_test

import (
	"math/rand"
	"slices"
	"testing"

	"larch/api"
	"larch/word"
)

// step: what the chapter's table says of one access to a word that holds v.
func step(kind int, v uint64, act word.Act) (uint64, word.Out) {
	a, b := held(kind, act.A), held(kind, act.B)
	switch act.Kind {
	case api.Load:
		return v, word.Out{Val: v, Ok: true}
	case api.Store:
		return a, word.Out{Ok: true}
	case api.Add:
		return held(kind, v+a), word.Out{Val: held(kind, v+a), Ok: true}
	case api.Swap:
		return a, word.Out{Val: v, Ok: true}
	case api.And:
		return v & a, word.Out{Val: v, Ok: true}
	case api.Or:
		return v | a, word.Out{Val: v, Ok: true}
	}
	if v == a {
		return b, word.Out{Ok: true}
	}
	return v, word.Out{}
}

func accessesOf(kind int) []int {
	if kind == word.Bool {
		return []int{api.Load, api.Store, api.Swap, api.Cas}
	}
	return []int{api.Load, api.Store, api.Add, api.Swap, api.Cas, api.And, api.Or}
}

// checkRow holds Do and Steps against the table.
func checkRow(t *testing.T, kind int, start uint64, acts []word.Act) {
	t.Helper()
	v := held(kind, start)
	var outs []word.Out
	var steps []uint64
	for _, a := range acts {
		var out word.Out
		v, out = step(kind, v, a)
		outs, steps = append(outs, out), append(steps, v)
	}
	if got, last, e := word.Do(kind, start, acts); !slices.Equal(got, outs) || last != v || e != api.OK {
		t.Errorf("Do(%d, %d, %v) = %v, %d, %d, want %v, %d", kind, start, acts, got, last, e, outs, v)
	}
	if got, e := word.Steps(kind, start, acts); !slices.Equal(got, steps) || e != api.OK {
		t.Errorf("Steps(%d, %d, %v) = %v, %d, want %v", kind, start, acts, got, e, steps)
	}
}

func TestRowsByExamples(t *testing.T) { // P1.2
	cases := []struct {
		kind  int
		start uint64
		acts  []word.Act
		outs  []word.Out
		last  uint64
		steps []uint64
	}{
		{word.I32, 2147483647, []word.Act{{Kind: api.Add, A: 1}}, []word.Out{{Val: 2147483648, Ok: true}}, 2147483648, []uint64{2147483648}},
		{word.U32, 0, []word.Act{{Kind: api.Add, A: 4294967295}}, []word.Out{{Val: 4294967295, Ok: true}}, 4294967295, []uint64{4294967295}},
		{word.U64, 5, []word.Act{{Kind: api.Add, A: 1<<64 - 5}}, []word.Out{{Ok: true}}, 0, []uint64{0}},
		{word.U32, 12,
			[]word.Act{{Kind: api.Swap, A: 7}, {Kind: api.Cas, A: 12, B: 1}, {Kind: api.Cas, A: 7, B: 1<<32 + 7}, {Kind: api.And, A: 5}, {Kind: api.Or, A: 8}, {Kind: api.Load}, {Kind: api.Store, A: 3}},
			[]word.Out{{Val: 12, Ok: true}, {}, {Ok: true}, {Val: 7, Ok: true}, {Val: 5, Ok: true}, {Val: 13, Ok: true}, {Ok: true}},
			3, []uint64{7, 7, 7, 5, 13, 13, 3}},
		{word.Bool, 0, []word.Act{{Kind: api.Cas, A: 0, B: 9}, {Kind: api.Load}, {Kind: api.Swap, A: 0}}, []word.Out{{Ok: true}, {Val: 1, Ok: true}, {Val: 1, Ok: true}}, 0, []uint64{1, 1, 0}},
		{word.I32, 1<<32 + 4, nil, nil, 4, nil},
	}
	for _, c := range cases {
		if outs, last, e := word.Do(c.kind, c.start, c.acts); !slices.Equal(outs, c.outs) || last != c.last || e != api.OK {
			t.Errorf("Do(%d, %d, %v) = %v, %d, %d", c.kind, c.start, c.acts, outs, last, e)
		}
		if steps, e := word.Steps(c.kind, c.start, c.acts); !slices.Equal(steps, c.steps) || e != api.OK {
			t.Errorf("Steps(%d, %d, %v) = %v, %d", c.kind, c.start, c.acts, steps, e)
		}
	}
}

func TestOneAccessAtAllEdges(t *testing.T) { // P1.2
	for _, k := range allKinds {
		for _, access := range accessesOf(k.kind) {
			for _, start := range edgeBits {
				for _, a := range edgeBits {
					checkRow(t, k.kind, start, []word.Act{{Kind: access, A: a, B: a + 1}})
				}
			}
		}
	}
}

func TestLongRows(t *testing.T) { // P1.2
	r := rand.New(rand.NewSource(1))
	edge := func() uint64 { return edgeBits[r.Intn(len(edgeBits))] }
	for _, k := range allKinds {
		accesses := accessesOf(k.kind)
		for range 50 {
			acts := make([]word.Act, r.Intn(40))
			for i := range acts {
				acts[i] = word.Act{Kind: accesses[r.Intn(len(accesses))], A: edge(), B: edge()}
			}
			checkRow(t, k.kind, edge(), acts)
		}
	}
	most := make([]word.Act, word.MaxActs)
	for i := range most {
		most[i] = word.Act{Kind: api.Add, A: 1 << 31}
	}
	checkRow(t, word.I32, 1, most)
}

func TestRowsThatAreRefused(t *testing.T) { // P1.2
	tooMany := make([]word.Act, word.MaxActs+1) // of kind 0, which there isn't: ErrBig comes first
	ok := word.Act{Kind: api.Load}
	cases := []struct {
		kind int
		acts []word.Act
		e    api.Errno
	}{
		{9, tooMany, api.ErrKind}, {word.I32, tooMany, api.ErrBig}, {word.Bool, tooMany, api.ErrBig},
		{word.I32, []word.Act{{Kind: 0}}, api.ErrKind}, {word.I32, []word.Act{ok, {Kind: 8}}, api.ErrKind}, {word.Uptr, []word.Act{ok, {Kind: -1}, ok}, api.ErrKind},
		{word.Bool, []word.Act{{Kind: api.Add, A: 1}}, api.ErrKind}, {word.Bool, []word.Act{ok, {Kind: api.And}}, api.ErrKind}, {word.Bool, []word.Act{ok, {Kind: api.Or}}, api.ErrKind},
	}
	for _, c := range cases {
		if outs, last, e := word.Do(c.kind, 7, c.acts); len(outs) != 0 || last != 0 || e != c.e {
			t.Errorf("Do(%d, 7, %d acts) = %v, %d, %d", c.kind, len(c.acts), outs, last, e)
		}
		if steps, e := word.Steps(c.kind, 7, c.acts); len(steps) != 0 || e != c.e {
			t.Errorf("Steps(%d, 7, %d acts) = %v, %d", c.kind, len(c.acts), steps, e)
		}
	}
}
