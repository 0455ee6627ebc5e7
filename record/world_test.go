package record_test

import (
	"math/rand"
	"testing"

	"larch/api"
	"larch/record"
)

// TestMake: the world that is made is the one that is told; each has a number.
func TestMake(t *testing.T) { // P12.1
	r := rand.New(rand.NewSource(11))
	for range 200 {
		w := someWorld(r, r.Intn(5), r.Intn(4), 3)
		made, e := record.Make(w)
		if e != api.OK || record.Check(w) != api.OK || !sameWorld(made.World(), w) || !sameWorld(record.World{Fields: made.Fields()}, record.World{Fields: w.Fields}) {
			t.Fatalf("Make(%v) = %v, %d", w, made, e)
		}
		for n, p := range made.Records {
			if record.Number(p) != n || made.Record(n) != p || made.Info(n, w.Infos[n]) != p.Info(nil) || made.Info(n, -1).State(nil) != record.Aborted {
				t.Fatalf("%v: record %d", w, n)
			}
		}
		for n, s := range made.Scxs {
			if made.Info(0, n) != s {
				t.Fatalf("%v: SCX-record %d", w, n)
			}
		}
	}
	if (record.Things{}).Record(-1) != nil || record.Number(nil) != -1 {
		t.Error("nil has another number than -1")
	}
}

// TestMoreScxs: those that are put behind the world's have their numbers too.
func TestMoreScxs(t *testing.T) { // P12.1
	made, _ := record.Make(example())
	s := record.NewScx[int](nil, nil, nil, 0, 0, nil, nil)
	made.Scxs = append(made.Scxs, s)
	made.Records[0].Freeze(nil, made.Info(0, -1), s)
	s.Commit(nil)
	w := made.World()
	if w.Infos[0] != 1 || len(w.States) != 2 || w.States[1] != record.Committed || len(w.Frozen) != 2 {
		t.Errorf("%v", w)
	}
}

func TestMakeRefuses(t *testing.T) { // P12.1
	big, odd := example(), example()
	big.Fields, odd.Infos = make([][]int, 65), []int{1, -1}
	for want, w := range map[api.Errno]record.World{api.ErrBig: big, api.ErrForm: odd} {
		made, e := record.Make(w)
		if e != want || record.Check(w) != want || made.Records != nil || made.Scxs != nil {
			t.Errorf("Make = %v, %d, want %d", made, e, want)
		}
	}
}
