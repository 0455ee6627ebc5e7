package once_test

import (
	"math"
	"math/rand"
	"slices"
	"testing"

	"larch/api"
	"larch/once"
)

func num(n int) once.Thing            { return once.Thing{Kind: once.Int, N: n} }
func text(s string) once.Thing        { return once.Thing{Kind: once.Text, S: s} }
func pair(n int, s string) once.Thing { return once.Thing{Kind: once.Pair, N: n, S: s} }
func list(n int) once.Thing           { return once.Thing{Kind: once.List, N: n} }

var none once.Thing

func load() once.Deed                 { return once.Deed{Kind: once.Load} }
func store(x once.Thing) once.Deed    { return once.Deed{Kind: once.Store, New: x} }
func swap(x once.Thing) once.Deed     { return once.Deed{Kind: once.Swap, New: x} }
func cas(old, x once.Thing) once.Deed { return once.Deed{Kind: once.Cas, Old: old, New: x} }
func is(x once.Thing) once.Got        { return once.Got{Thing: x, Ok: true} }
func fails(e api.Errno) once.Got      { return once.Got{Err: e} }

// bare: the thing without what its kind doesn't use.
func bare(x once.Thing) once.Thing {
	switch x.Kind {
	case once.Int, once.List:
		return once.Thing{Kind: x.Kind, N: x.N}
	case once.Text:
		return once.Thing{Kind: x.Kind, S: x.S}
	case once.Pair:
		return x
	}
	return none
}

func isNoThing(x once.Thing) bool {
	return x.Kind < 0 || x.Kind > 4 || x.Kind == 4 && (x.N < 0 || x.N > 1000)
}

// model is the chapter's list of cases, on a plain thing.
type model struct {
	held once.Thing
}

func (m *model) do(d once.Deed) once.Got {
	if d.Kind < 1 || d.Kind > 4 {
		return fails(api.ErrKind)
	}
	if d.Kind == once.Load {
		return is(m.held)
	}
	if d.Kind == once.Cas && isNoThing(d.Old) || isNoThing(d.New) {
		return fails(api.ErrArg)
	}
	old, fresh := bare(d.Old), bare(d.New)
	if fresh.Kind == once.Nil {
		return fails(api.ErrNil)
	}
	if d.Kind == once.Cas {
		return m.cas(old, fresh)
	}
	if m.held.Kind != once.Nil && m.held.Kind != fresh.Kind {
		return fails(api.ErrType)
	}
	was := m.held
	m.held = fresh
	if d.Kind == once.Store {
		was = none
	}
	return is(was)
}

func (m *model) cas(old, fresh once.Thing) once.Got {
	switch {
	case old.Kind != once.Nil && old.Kind != fresh.Kind:
		return fails(api.ErrType)
	case m.held.Kind == once.Nil && old.Kind != once.Nil:
		return once.Got{}
	case m.held.Kind == once.Nil:
		m.held = fresh
		return is(none)
	case m.held.Kind != fresh.Kind:
		return fails(api.ErrType)
	case old.Kind == once.Nil:
		return once.Got{}
	case old.Kind == once.List:
		return fails(api.ErrPanic)
	case m.held != old:
		return once.Got{}
	}
	m.held = fresh
	return is(none)
}

func byModel(deeds []once.Deed) []once.Got {
	var m model
	var got []once.Got
	for _, d := range deeds {
		got = append(got, m.do(d))
	}
	return got
}

func TestBoxByExamples(t *testing.T) { // P3.2
	did := is(none)
	for _, c := range []struct {
		deeds []once.Deed
		want  []once.Got
	}{
		{[]once.Deed{load(), store(num(7)), load(), store(text("a")), swap(num(8)), load()}, []once.Got{did, did, is(num(7)), fails(api.ErrType), is(num(7)), is(num(8))}},
		{[]once.Deed{store(none)}, []once.Got{fails(api.ErrNil)}},
		{[]once.Deed{swap(num(3))}, []once.Got{did}},
		{[]once.Deed{cas(none, num(5)), cas(none, num(6)), cas(num(5), num(6)), cas(num(5), num(7)), cas(text("a"), num(7)), cas(num(6), text("a")), load()}, []once.Got{did, {}, did, {}, fails(api.ErrType), fails(api.ErrType), is(num(6))}},
		{[]once.Deed{cas(num(5), num(6))}, []once.Got{{}}},
		{[]once.Deed{store(num(5)), cas(text("a"), text("b"))}, []once.Got{did, fails(api.ErrType)}},
		{[]once.Deed{store(list(2)), cas(list(2), list(3)), cas(none, list(3)), swap(list(0))}, []once.Got{did, fails(api.ErrPanic), {}, is(list(2))}},
		{[]once.Deed{store(pair(1, "a")), cas(pair(1, "a"), pair(2, "b"))}, []once.Got{did, did}},
		{[]once.Deed{{Kind: 9}}, []once.Got{fails(api.ErrKind)}},
		{[]once.Deed{store(list(-1))}, []once.Got{fails(api.ErrArg)}},
		{nil, nil},
		{[]once.Deed{}, nil},
	} {
		if got := once.Box(c.deeds); !slices.Equal(got, c.want) {
			t.Errorf("Box(%v) = %v, want %v", c.deeds, got, c.want)
		}
	}
}

func TestBoxEdges(t *testing.T) { // P3.2
	odd := once.Thing{Kind: once.Int, N: 1, S: "x"}
	wrong := once.Thing{Kind: 5}
	did := is(none)
	for _, c := range []struct {
		name  string
		deeds []once.Deed
		want  []once.Got
	}{
		{"what a kind doesn't use has no meaning", []once.Deed{store(odd), load(), cas(once.Thing{Kind: once.Int, N: 1, S: "y"}, num(2)), load()}, []once.Got{did, is(num(1)), did, is(num(2))}},
		{"a text's number has none either", []once.Deed{store(once.Thing{Kind: once.Text, N: 4, S: "x"}), cas(text("x"), text("")), load()}, []once.Got{did, did, is(text(""))}},
		{"a Nil with other fields is Nil", []once.Deed{store(once.Thing{N: 1, S: "a"}), cas(once.Thing{N: 1, S: "a"}, num(1))}, []once.Got{fails(api.ErrNil), did}},
		{"the zeros of each kind are things", []once.Deed{store(num(0)), load()}, []once.Got{did, is(num(0))}},
		{"an empty list", []once.Deed{store(list(0)), load(), cas(list(0), list(0))}, []once.Got{did, is(list(0)), fails(api.ErrPanic)}},
		{"the longest list", []once.Deed{store(list(1000)), store(list(1001)), load()}, []once.Got{did, fails(api.ErrArg), is(list(1000))}},
		{"a text that reads as one of another kind", []once.Deed{store(text("1")), store(num(1))}, []once.Got{did, fails(api.ErrType)}},
		{"Load uses no thing", []once.Deed{{Kind: once.Load, Old: wrong, New: wrong}}, []once.Got{did}},
		{"Store and Swap use no Old", []once.Deed{{Kind: once.Store, Old: wrong, New: num(1)}, {Kind: once.Swap, Old: list(-1), New: num(2)}}, []once.Got{did, is(num(1))}},
		{"a wrong kind counts ahead of a wrong thing", []once.Deed{{Kind: 0, New: wrong}, {Kind: 5, Old: wrong}, {Kind: -1}}, []once.Got{fails(api.ErrKind), fails(api.ErrKind), fails(api.ErrKind)}},
		{"a wrong thing counts ahead of Nil", []once.Deed{cas(wrong, none), cas(none, wrong)}, []once.Got{fails(api.ErrArg), fails(api.ErrArg)}},
		{"Nil counts ahead of another type", []once.Deed{store(num(1)), cas(text("a"), none), swap(none)}, []once.Got{did, fails(api.ErrNil), fails(api.ErrNil)}},
		{"Old and New of two kinds, on an empty value", []once.Deed{cas(num(1), text("a")), cas(list(1), num(1)), load()}, []once.Got{fails(api.ErrType), fails(api.ErrType), did}},
		{"two lists of an empty value aren't compared", []once.Deed{cas(list(1), list(1)), cas(none, list(1)), cas(list(1), list(1))}, []once.Got{{}, did, fails(api.ErrPanic)}},
		{"lists of unlike lengths are no better", []once.Deed{store(list(1)), cas(list(2), list(3)), load()}, []once.Got{did, fails(api.ErrPanic), is(list(1))}},
		{"pairs differ in one field", []once.Deed{store(pair(1, "a")), cas(pair(1, "b"), pair(3, "")), cas(pair(2, "a"), pair(3, "")), load()}, []once.Got{did, {}, {}, is(pair(1, "a"))}},
		{"a refused first Store leaves the kind open", []once.Deed{store(list(-1)), store(none), store(text("a")), load()}, []once.Got{fails(api.ErrArg), fails(api.ErrNil), did, is(text("a"))}},
	} {
		if got := once.Box(c.deeds); !slices.Equal(got, c.want) {
			t.Errorf("%s: Box(%v) = %v, want %v", c.name, c.deeds, got, c.want)
		}
	}
}

// someThings: two of each kind, and some that are none.
func someThings() []once.Thing {
	return []once.Thing{none, num(0), num(3), text(""), text("a"), pair(0, ""), pair(3, "a"), list(0), list(2),
		{Kind: 5}, {Kind: -1, N: 3}, list(-1), list(1001), {Kind: once.List, N: math.MinInt}}
}

func TestBoxOfAllPairsOfDeeds(t *testing.T) { // P3.2
	deeds := []once.Deed{load(), {Kind: 0}, {Kind: 5}}
	for _, x := range someThings() {
		deeds = append(deeds, store(x), swap(x))
		for _, y := range someThings() {
			deeds = append(deeds, cas(x, y))
		}
	}
	for _, a := range deeds {
		for _, b := range deeds {
			both := []once.Deed{a, b, load()}
			if got, want := once.Box(both), byModel(both); !slices.Equal(got, want) {
				t.Fatalf("Box(%v) = %v, want %v", both, got, want)
			}
		}
	}
}

func TestBoxOfManyDeeds(t *testing.T) { // P3.2
	r := rand.New(rand.NewSource(2))
	for range 300 {
		deeds := make([]once.Deed, r.Intn(40))
		kind := 1 + r.Intn(4) // most things of one kind: else nearly all is refused
		thing := func() once.Thing {
			if r.Intn(8) == 0 {
				return someThings()[r.Intn(len(someThings()))]
			}
			return once.Thing{Kind: kind, N: r.Intn(2), S: string("ab"[r.Intn(2)])}
		}
		for i := range deeds {
			deeds[i] = once.Deed{Kind: 1 + r.Intn(4), Old: thing(), New: thing()}
		}
		if got, want := once.Box(deeds), byModel(deeds); !slices.Equal(got, want) {
			t.Fatalf("Box(%v) = %v, want %v", deeds, got, want)
		}
	}
}

func TestCan(t *testing.T) { // P3.2
	for _, a := range someThings() {
		for _, b := range someThings() {
			want, refused := !(a.Kind == once.List && b.Kind == once.List), api.OK
			if isNoThing(a) || isNoThing(b) {
				want, refused = false, api.ErrArg
			}
			if can, e := once.Can(a, b); can != want || e != refused {
				t.Errorf("Can(%v, %v) = %v, %d, want %v, %d", a, b, can, e, want, refused)
			}
		}
	}
}

func TestBoxKeepsAndChangesNothing(t *testing.T) { // P3.4
	room := []once.Deed{store(list(3)), load(), swap(list(4)), cas(none, list(1)), load(), store(num(9)), store(num(8))}
	before := slices.Clone(room)
	first := once.Box(room[:5])
	kept := slices.Clone(first)
	second := once.Box(room[:5])
	clear(second)
	if !slices.Equal(first, kept) {
		t.Errorf("two answers share memory: %v, was %v", first, kept)
	}
	if third := once.Box(room[:5]); !slices.Equal(third, kept) { // a value that was left over would show
		t.Errorf("Box = %v, and at another call %v", kept, third)
	}
	if !slices.Equal(room, before) {
		t.Errorf("Box changed what was handed in: %v", room)
	}
}
