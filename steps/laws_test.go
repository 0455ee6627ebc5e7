package steps_test

import (
	"math/rand"
	"slices"
	"testing"

	"larch/api"
	"larch/steps"
	"larch/table"
)

// look is a table with the tree of its keys.
type look struct {
	t      []api.Node
	keys   *tree
	places map[*tree]int
}

func lookAt(t *testing.T, n []api.Node) look {
	t.Helper()
	root, e := table.Root(n)
	if e != api.OK {
		t.Fatalf("%v has no crown, or no keys: %d", n, e)
	}
	places := map[*tree]int{}
	return look{n, treeOf(n, root, places), places}
}

// eachSpot holds all calls against the words, at each node, and then does something with each move that was done.
func (k look) eachSpot(t *testing.T, do func(x *tree, m steps.Move, behind look)) {
	t.Helper()
	moves, _ := allMoves()
	spots := map[int][]steps.Move{}
	for x, at := range k.places {
		for _, m := range moves {
			y, can := x.behind(m, x == k.keys)
			if got, e := steps.Can(k.t, at, m); got != can || e != api.OK {
				t.Fatalf("Can(%s, %s, %v) = %v, %d", k.keys.text(), x.text(), m, got, e)
			}
			done, e := steps.Do(k.t, at, m)
			out, e1 := steps.Touched(k.t, at, m)
			if !can {
				if len(done) != 0 || len(out) != 0 || e != api.ErrStep || e1 != api.ErrStep {
					t.Fatalf("Do, Touched(%s, %s, %v) = %v, %d; %v, %d", k.keys.text(), x.text(), m, done, e, out, e1)
				}
				continue
			}
			spots[at] = append(spots[at], m)
			if want := k.keys.with(x, y).text(); e != api.OK || !slices.Equal(done, read(t, want)) {
				t.Fatalf("Do(%s, %s, %v) = %v, %d, want %s", k.keys.text(), x.text(), m, done, e, want)
			}
			if want := k.out(x, m); e1 != api.OK || !slices.Equal(out, want) {
				t.Fatalf("Touched(%s, %s, %v) = %v, %d, want %v", k.keys.text(), x.text(), m, out, e1, want)
			}
			do(x, m, lookAt(t, done))
		}
		if here, e := steps.Here(k.t, at); e != api.OK || !slices.Equal(here, spots[at]) {
			t.Fatalf("Here(%s, %s) = %v, %d, want %v", k.keys.text(), x.text(), here, e, spots[at])
		}
	}
	k.wantSpots(t, spots)
}

// out: the places of what a move takes out.
func (k look) out(x *tree, m steps.Move) []int {
	var places []int
	for _, path := range out(m) {
		places = append(places, k.places[x.at(path)])
	}
	return places
}

func (k look) wantSpots(t *testing.T, spots map[int][]steps.Move) {
	t.Helper()
	var places []int
	var moves []steps.Move
	for at := range k.t {
		for _, m := range spots[at] {
			places, moves = append(places, at), append(moves, m)
		}
	}
	if gotPlaces, gotMoves, e := steps.Spots(k.t); e != api.OK || !slices.Equal(gotPlaces, places) || !slices.Equal(gotMoves, moves) {
		t.Fatalf("Spots(%s) = %v, %v, %d, want %v, %v", k.keys.text(), gotPlaces, gotMoves, e, places, moves)
	}
}

// wantLaws: what holds behind every move.
func (k look) wantLaws(t *testing.T, x *tree, m steps.Move, b look) {
	t.Helper()
	if !slices.Equal(b.keys.leaves(), k.keys.leaves()) {
		t.Fatalf("P18.3: %v at %s of %s changes the leaves: %s", m, x.text(), k.keys.text(), b.keys.text())
	}
	was, _ := table.Ordered(k.t)
	if is, e := table.Ordered(b.t); was && !is || e != api.OK {
		t.Fatalf("P18.3: %v at %s of %s: not ordered any more: %s", m, x.text(), k.keys.text(), b.keys.text())
	}
	sums, then := k.keys.sums(0), b.keys.sums(0)
	by := then[0] - sums[0]
	for i := range sums {
		if then[i]-sums[i] != by || by != 0 && x != k.keys {
			t.Fatalf("P18.4: %v at %s of %s: the sums were %v, and are %v", m, x.text(), k.keys.text(), sums, then)
		}
	}
	less := m.Kind >= steps.W1 && m.Kind <= steps.W7 || m.Kind == steps.RB1 || m.Kind == steps.RB2
	if had, has := k.keys.violations(1), b.keys.violations(1); has > had || less && has == had {
		t.Fatalf("P18.5: %v at %s of %s: %d violations, and then %d", m, x.text(), k.keys.text(), had, has)
	}
}

// wantMirror: the mirrored move in the mirrored tree gives the mirrored result.
func (k look) wantMirror(t *testing.T, x *tree, m steps.Move, b look) {
	t.Helper()
	turned := mirrorKeys(t, k.t)
	_, path := pathTo(k.keys, x)
	root, _ := table.Root(turned)
	at := placeOf(turned, root, mirrored(path)) // the same node there
	if m.Kind != steps.BLK && m.Kind != steps.W7 && m.Kind != steps.ROOT {
		m.Mirror = !m.Mirror
	}
	got, e := steps.Do(turned, at, m)
	if want := mirrorKeys(t, b.t); e != api.OK || !slices.Equal(got, want) {
		t.Fatalf("P18.6: %v in the mirror of %s gives %v, %d, want %v", m, k.keys.text(), got, e, want)
	}
}

// pathTo: is the node in the tree, and by which path?
func pathTo(from, x *tree) (bool, string) {
	if from == x {
		return true, ""
	}
	if from == nil {
		return false, ""
	}
	if is, path := pathTo(from.left, x); is {
		return true, "l" + path
	}
	is, path := pathTo(from.right, x)
	return is, "r" + path
}

// mirrorKeys: the table with the tree of the keys mirrored, as the promise says it.
func mirrorKeys(t *testing.T, n []api.Node) []api.Node {
	t.Helper()
	root, e1 := table.Root(n)
	keys, e2 := table.Sub(n, root)
	keys, e3 := table.Mirror(keys)
	turned, e4 := table.Graft(n, root, keys)
	if e1|e2|e3|e4 != api.OK {
		t.Fatalf("%v has no mirror", n)
	}
	return turned
}

func (k look) wantAll(t *testing.T, done map[steps.Move]int) {
	t.Helper()
	k.eachSpot(t, func(x *tree, m steps.Move, b look) {
		k.wantLaws(t, x, m, b)
		k.wantMirror(t, x, m, b)
		done[m]++
	})
}

// TestMovesOfAll: all trees of up to four leaves with weights 0 to 2.
func TestMovesOfAll(t *testing.T) { // P18.1 to P18.6
	r := rand.New(rand.NewSource(1))
	done := map[steps.Move]int{}
	for leaves := 1; leaves <= 4; leaves++ {
		for _, x := range shapes(1, leaves) {
			eachWeight(x.all(), func() {
				if leaves == 4 && r.Intn(3) != 0 { // a third of the most is enough
					return
				}
				lookAt(t, shuffled(r, read(t, x.text()))).wantAll(t, done)
			})
		}
	}
	for _, m := range steps.All() {
		if done[m] < 3 && m.Kind != steps.W3 { // which takes five leaves
			t.Errorf("%v was done %d times: the test sees too little", m, done[m])
		}
	}
}

func TestMovesByChance(t *testing.T) { // P18.1 to P18.6
	r := rand.New(rand.NewSource(2))
	done := map[steps.Move]int{}
	for range 600 {
		x := someTree(r, -3, 4+r.Intn(14), r.Intn(3) != 0)
		lookAt(t, shuffled(r, read(t, x.text()))).wantAll(t, done)
	}
	for range 100 {
		for _, s := range sites() {
			x, _, _ := s.moved(t, r.Intn(2) == 0)
			lookAt(t, shuffled(r, read(t, near(r, x).text()))).wantAll(t, done)
		}
	}
	for _, m := range steps.All() {
		if done[m] < 20 {
			t.Errorf("%v was done %d times: the test sees too little", m, done[m])
		}
	}
}

// TestMovesOfOddTrees: a site of each move in all surroundings, numbered by chance.
func TestMovesOfOddTrees(t *testing.T) { // P18.1 to P18.6
	r := rand.New(rand.NewSource(3))
	done := map[steps.Move]int{}
	for _, s := range sites() {
		for _, mirror := range []bool{false, true} {
			x, _, _ := s.moved(t, mirror)
			for _, sp := range spreads(t, x.text()) {
				lookAt(t, shuffled(r, sp.table)).wantAll(t, done)
			}
		}
	}
	for _, m := range steps.All() {
		if done[m] < 2 && m.Kind != steps.ROOT || done[steps.Move{Kind: steps.ROOT}] == 0 {
			t.Errorf("%v was done %d times: the test sees too little", m, done[m])
		}
	}
}

// TestMovesTillNoneIsLeft: one move behind the other, by chance: all laws hold all along.
func TestMovesTillNoneIsLeft(t *testing.T) { // P18.3, P18.4, P18.5
	r := rand.New(rand.NewSource(4))
	for range 60 {
		k := lookAt(t, read(t, someTree(r, -3, 2+r.Intn(40), true).text()))
		for range 60 {
			places, moves, e := steps.Spots(k.t)
			if e != api.OK {
				t.Fatalf("Spots: %d", e)
			}
			if len(places) == 0 {
				break
			}
			i := r.Intn(len(places))
			done, e := steps.Do(k.t, places[i], moves[i])
			if e != api.OK {
				t.Fatalf("Do: %d", e)
			}
			b := lookAt(t, done)
			for x, at := range k.places {
				if at == places[i] {
					k.wantLaws(t, x, moves[i], b)
				}
			}
			k = b
		}
	}
}
