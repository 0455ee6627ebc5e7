package snap_test

import (
	"math/rand"
	"slices"
	"testing"

	"larch/api"
	"larch/baton"
	"larch/snap"
)

// eachGame calls look with games by chance, whose picks often end in the midst.
func eachGame(t *testing.T, seed int64, games int, make func(r *rand.Rand, regs int) snap.Op, look func(regs []int, scripts [][]snap.Op, picks []int, d snap.Done)) {
	t.Helper()
	r := rand.New(rand.NewSource(seed))
	for range games {
		regs := someRegs(r, 1+r.Intn(4))
		scripts := someScripts(r, 1+r.Intn(4), 5, len(regs))
		for _, script := range scripts {
			for i := range script {
				script[i] = make(r, len(regs))
			}
		}
		picks := somePicks(r, len(scripts), 120)
		d, e := snap.Run(regs, scripts, picks)
		if e != api.OK {
			t.Fatalf("Run(%v, %v, %v): %d", regs, scripts, picks, e)
		}
		look(regs, scripts, picks, d)
	}
}

// eachSnap calls look with the answer of each Snap that began.
func eachSnap(scripts [][]snap.Op, d snap.Done, look func(thread int, a snap.Ans)) {
	for thread, answers := range d.Answers {
		for i, a := range answers {
			if scripts[thread][i].Kind == snap.Snap {
				look(thread, a)
			}
		}
	}
}

// lookOften: a Snap, or something that changes a register.
func lookOften(r *rand.Rand, regs int) snap.Op {
	if r.Intn(3) == 0 {
		return look
	}
	return snap.Op{Kind: []int{snap.Write, snap.Trade, snap.Turn}[r.Intn(3)], At: r.Intn(regs), A: r.Intn(3), B: r.Intn(3)}
}

func TestSnapsStoodAtOneMoment(t *testing.T) { // P11.3
	ended, meddled := 0, 0
	stood := func(regs []int, scripts [][]snap.Op, picks []int, d snap.Done) {
		m, e := snap.Moments(regs, scripts, picks)
		if e != api.OK {
			t.Fatalf("Moments(%v, %v, %v): %d", regs, scripts, picks, e)
		}
		eachSnap(scripts, d, func(thread int, a snap.Ans) {
			if a.To == -1 {
				return
			}
			ended++
			if a.Val > 2 {
				meddled++
			}
			if at, e := snap.Between(m, a); len(at) == 0 || e != api.OK {
				t.Fatalf("Run(%v, %v, %v): thread %d's snapshot %v stood at no moment of %v: %d", regs, scripts, picks, thread, a, m, e)
			}
		})
	}
	eachGame(t, 2, 1500, lookOften, stood)
	scripts := threads(ops(look), ops(write(0, 1), write(1, 1), write(0, 0)))
	orders, _ := baton.Orders([]int{9, 6})
	for _, picks := range orders {
		d, _ := snap.Run([]int{0, 0}, scripts, picks)
		stood([]int{0, 0}, scripts, picks, d)
	}
	if ended < 1000 || meddled < 300 {
		t.Errorf("%d snapshots, %d of them with more than two collects: the test sees too little", ended, meddled)
	}
}

// changed: the picks that changed a register, told by the operations' answers.
func changed(scripts [][]snap.Op, d snap.Done) []int {
	var picks []int
	for thread, answers := range d.Answers {
		for i, a := range answers {
			if kind := scripts[thread][i].Kind; a.Ok && kind != snap.Read && kind != snap.Snap {
				picks = append(picks, a.To)
			}
		}
	}
	return picks
}

// doneAhead: how many accesses of its own, of the snapshot that began in pick from, the thread had done ahead of that pick.
func doneAhead(d snap.Done, thread, from, pick int) int {
	done := 0
	for _, s := range d.Steps[from+1 : pick] {
		if s.Worker == thread && s.Kind != -1 {
			done++
		}
	}
	return done
}

func TestSnapsEndSoonBehindTheLastChange(t *testing.T) { // P11.4
	late := 0
	eachGame(t, 3, 1500, lookOften, func(regs []int, scripts [][]snap.Op, picks []int, d snap.Done) {
		changes := changed(scripts, d)
		eachSnap(scripts, d, func(thread int, a snap.Ans) {
			most := 2
			for _, pick := range changes {
				if a.From < pick && pick < a.To {
					collect := doneAhead(d, thread, a.From, pick)/len(regs) + 1 // during which the change came
					most = max(most, collect+2)
				}
			}
			if most > 3 {
				late++
			}
			if a.Val > most {
				t.Fatalf("Run(%v, %v, %v): thread %d's snapshot %v made more than %d collects", regs, scripts, picks, thread, a, most)
			}
		})
	})
	if late < 50 {
		t.Errorf("%d snapshots with late changes: the test sees too little", late)
	}
}

func TestSnapsEndWhenPickedAlone(t *testing.T) { // P11.4
	pending, longest := 0, 0
	eachGame(t, 4, 1500, lookOften, func(regs []int, scripts [][]snap.Op, picks []int, d snap.Done) {
		eachSnap(scripts, d, func(thread int, a snap.Ans) {
			if a.To != -1 {
				return
			}
			pending++
			more := slices.Repeat([]int{thread}, 3*len(regs))
			then, _ := snap.Run(regs, scripts, slices.Concat(picks, more))
			last := then.Answers[thread][len(d.Answers[thread])-1]
			if last.To == -1 {
				t.Fatalf("Run(%v, %v, %v): thread %d's snapshot doesn't end with %d picks more", regs, scripts, picks, thread, len(more))
			}
			if last.To-len(picks)+1 == len(more)-1 { // changed behind the first Load of a collect: no more is needed
				longest++
			}
		})
	})
	if pending < 100 || longest == 0 {
		t.Errorf("%d pending snapshots, %d that took as long as can be: the test sees too little", pending, longest)
	}
	d, _ := snap.Run(nil, threads(ops(look)), []int{0})
	if d.Answers[0][0].To != 0 {
		t.Errorf("a snapshot of no registers: %v", d.Answers)
	}
}

// TestJustOneTurns: threads that turn a register from 7, each once, in all orders.
func TestJustOneTurns(t *testing.T) { // P11.5
	scripts := threads(ops(turn(0, 7, 8)), ops(turn(0, 7, 9)), ops(turn(0, 7, 8)))
	orders, _ := baton.Orders([]int{3, 3, 3})
	for first, want := range map[int]int{7: 1, 8: 0, 0: 0} {
		for _, picks := range orders {
			d, _ := snap.Run([]int{first, 7}, scripts, picks)
			turned, left := 0, first
			for thread, answers := range d.Answers {
				if answers[0].To == -1 {
					t.Fatalf("Run((%d), .., %v): thread %d hasn't ended", first, picks, thread)
				}
				if answers[0].Ok {
					turned++
					left = scripts[thread][0].B
				}
			}
			if turned != want || d.Regs[0] != left || d.Regs[1] != 7 {
				t.Fatalf("Run((%d), .., %v) = %v: %d turned, want %d", first, picks, d, turned, want)
			}
		}
	}
}

// TestTradesLoseNothing: on each register there is nothing but trades, and what doesn't change it.
func TestTradesLoseNothing(t *testing.T) { // P11.5
	traded := 0
	eachGame(t, 5, 1000, func(r *rand.Rand, regs int) snap.Op {
		switch r.Intn(6) {
		case 0:
			return look
		case 1:
			return read(r.Intn(regs))
		case 2:
			return turn(r.Intn(regs), 99, 5) // nowhere there is a 99
		}
		return trade(r.Intn(regs), r.Intn(3))
	}, func(regs []int, scripts [][]snap.Op, picks []int, d snap.Done) {
		for at, first := range regs {
			in, out := []int{first}, []int{d.Regs[at]}
			for thread, answers := range d.Answers {
				for i, a := range answers {
					if op := scripts[thread][i]; op.Kind == snap.Trade && op.At == at && a.To != -1 {
						in, out = append(in, op.A), append(out, a.Val)
						traded++
					}
				}
			}
			slices.Sort(in)
			slices.Sort(out)
			if !slices.Equal(in, out) {
				t.Fatalf("Run(%v, %v, %v): register %d got %v and gave %v", regs, scripts, picks, at, in, out)
			}
		}
	})
	if traded < 1000 {
		t.Errorf("%d trades: the test sees too little", traded)
	}
}
