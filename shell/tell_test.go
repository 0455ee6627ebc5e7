package shell_test

import (
	"math/rand"
	"testing"

	"larch/api"
	"larch/shell"
)

func TestTell(t *testing.T) { // P28.3
	pairs := []api.Pair{{Key: 1, Val: 2}, {Key: 3, Val: 4}}
	full := api.Ret{Ok: true, Key: 8, Val: -9, Pairs: pairs}
	none := api.Ret{Key: 8, Val: -9, Pairs: pairs}
	of := func(kind int) api.Op { return api.Op{Kind: kind, Key: 5, Val: 6, Hi: 7} }
	for _, c := range []struct {
		e    api.Event
		want string
	}{
		{api.Event{Thread: 1, Op: api.Op{Kind: api.Get, Key: 5}}, "t1 get 5"},
		{api.Event{Thread: 1, Return: true, Op: api.Op{Kind: api.Get, Key: 5}, Ret: api.Ret{Ok: true, Val: 7}}, "t1 get 5 -> yes 7"},
		{api.Event{Return: true, Op: api.Op{Kind: api.Range, Hi: 9}, Ret: api.Ret{Ok: true, Pairs: pairs}}, "t0 range 0 9 -> yes 1:2 3:4"},
		{api.Event{Return: true, Op: api.Op{Kind: api.Min}}, "t0 min -> no 0:0"},
		{api.Event{Thread: 63, Op: of(api.Put), Ret: full}, "t63 put 5 6"}, {api.Event{Thread: -1, Op: of(api.Max)}, "t-1 max"}, {api.Event{Thread: most, Op: of(api.Range)}, "t9223372036854775807 range 5 7"}, {api.Event{Thread: least, Op: of(0)}, "t-9223372036854775808 kind 0"},
		{api.Event{Op: of(10)}, "t0 kind 10"}, {api.Event{Op: of(-3), Ret: full}, "t0 kind -3"}, {api.Event{Op: of(most)}, "t0 kind 9223372036854775807"}, {api.Event{Op: of(least)}, "t0 kind -9223372036854775808"},
		{api.Event{Return: true, Op: of(api.Get), Ret: full}, "t0 get 5 -> yes -9"}, {api.Event{Return: true, Op: of(api.Get), Ret: none}, "t0 get 5 -> no -9"},
		{api.Event{Return: true, Op: of(api.Put), Ret: full}, "t0 put 5 6 -> yes -9"}, {api.Event{Return: true, Op: of(api.Put), Ret: none}, "t0 put 5 6 -> no -9"},
		{api.Event{Return: true, Op: of(api.PutIfAbsent), Ret: full}, "t0 ifabsent 5 6 -> yes -9"}, {api.Event{Return: true, Op: of(api.PutIfAbsent), Ret: none}, "t0 ifabsent 5 6 -> no -9"},
		{api.Event{Return: true, Op: of(api.Delete), Ret: full}, "t0 delete 5 -> yes -9"}, {api.Event{Return: true, Op: of(api.Delete), Ret: none}, "t0 delete 5 -> no -9"},
		{api.Event{Return: true, Op: of(api.Successor), Ret: full}, "t0 after 5 -> yes 8:-9"}, {api.Event{Return: true, Op: of(api.Successor), Ret: none}, "t0 after 5 -> no 8:-9"},
		{api.Event{Return: true, Op: of(api.Predecessor), Ret: full}, "t0 before 5 -> yes 8:-9"}, {api.Event{Return: true, Op: of(api.Predecessor)}, "t0 before 5 -> no 0:0"},
		{api.Event{Return: true, Op: of(api.Min), Ret: full}, "t0 min -> yes 8:-9"}, {api.Event{Return: true, Op: of(api.Max), Ret: none}, "t0 max -> no 8:-9"}, {api.Event{Return: true, Op: of(api.Max), Ret: api.Ret{Ok: true, Key: most, Val: least}}, "t0 max -> yes 9223372036854775807:-9223372036854775808"},
		{api.Event{Return: true, Op: of(api.Range), Ret: full}, "t0 range 5 7 -> yes 1:2 3:4"}, {api.Event{Return: true, Op: of(api.Range), Ret: none}, "t0 range 5 7 -> no 1:2 3:4"}, {api.Event{Return: true, Op: of(api.Range), Ret: api.Ret{Ok: true, Key: 1, Val: 2}}, "t0 range 5 7 -> yes"}, {api.Event{Return: true, Op: of(api.Range)}, "t0 range 5 7 -> no"},
		{api.Event{Return: true, Op: of(0), Ret: full}, "t0 kind 0 -> yes 1:2 3:4"}, {api.Event{Return: true, Op: of(12), Ret: api.Ret{Pairs: pairs[:1]}}, "t0 kind 12 -> no 1:2"}, {api.Event{Return: true, Op: of(-1), Ret: api.Ret{Ok: true, Key: 3, Val: 3}}, "t0 kind -1 -> yes"},
	} {
		if got := shell.Tell(c.e); got != c.want {
			t.Errorf("Tell(%v) = %q, want %q", c.e, got, c.want)
		}
	}
}

func TestTellByChance(t *testing.T) { // P28.3
	r := rand.New(rand.NewSource(5))
	for range 20000 {
		e := api.Event{Thread: someNumber(r), Return: r.Intn(3) > 0, Op: someOp(r)}
		e.Op.Kind = r.Intn(14) - 2
		e.Ret = api.Ret{Ok: r.Intn(2) == 0, Key: someNumber(r), Val: someNumber(r)}
		for range r.Intn(4) {
			e.Ret.Pairs = append(e.Ret.Pairs, api.Pair{Key: someNumber(r), Val: someNumber(r)})
		}
		if got, want := shell.Tell(e), naiveTell(e); got != want {
			t.Fatalf("Tell(%v) = %q, want %q", e, got, want)
		}
	}
}
