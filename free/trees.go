package free

import (
	"math"
	"slices"
	"sync"

	"larch/api"
	"larch/node"
	"larch/scan"
	"larch/table"
	"larch/together"
	"larch/weigh"
)

// Apart: a goroutine for each list of operations, on keys of its own, in one tree: the answers, and the pairs then.
func Apart(scripts [][]api.Op) ([][]api.Ret, []api.Pair, api.Errno) {
	if e := apartRefusal(scripts); e != api.OK {
		return nil, nil, e
	}
	entry := node.Entry()
	answers := make([][]api.Ret, len(scripts))
	together.Run(len(scripts), func(worker int) {
		mine := make([]api.Ret, len(scripts[worker]))
		for i, o := range scripts[worker] {
			mine[i], _ = scan.Do(nil, entry, o)
		}
		answers[worker] = mine
	})
	return answers, whole(entry), api.OK
}

// whole: all pairs of the tree, of one moment.
func whole(entry *node.Node) []api.Pair {
	return scan.Range(nil, entry, math.MinInt, math.MaxInt)
}

// Rush: n goroutines that all put each of the keys if it is absent, and then all delete each: how many did, by place in the list; the pairs then.
func Rush(n int, keys []int) ([]int, []int, []api.Pair, api.Errno) {
	if e := refusal(n, len(keys)); e != api.OK {
		return nil, nil, nil, e
	}
	entry := node.Entry()
	came, went := make([][]bool, n), make([][]bool, n) // by worker, by place
	var haveToPut sync.WaitGroup
	haveToPut.Add(n)
	together.Run(n, func(worker int) {
		came[worker] = doEach(entry, api.Op{Kind: api.PutIfAbsent, Val: worker}, keys)
		haveToPut.Done()
		haveToPut.Wait() // a key that was deleted already could come twice
		went[worker] = doEach(entry, api.Op{Kind: api.Delete}, keys)
	})
	return counts(came, len(keys)), counts(went, len(keys)), whole(entry), api.OK
}

// doEach does the operation with each of the keys, one behind the other: by place, was it Ok?
func doEach(entry *node.Node, o api.Op, keys []int) []bool {
	oks := make([]bool, len(keys))
	for place, key := range keys {
		o.Key = key
		ret, _ := scan.Do(nil, entry, o)
		oks[place] = ret.Ok
	}
	return oks
}

// Grow: one goroutine that puts 1 to m, rising, and n that range over all: was each range 1 to some k, and did k never fall? The pairs then.
func Grow(n, m, ranges int) (bool, []api.Pair, api.Errno) {
	if e := refusal(n, m, ranges); e != api.OK {
		return false, nil, e
	}
	entry := node.Entry()
	rose := make([]bool, n) // by worker
	together.Run(n+1, func(worker int) {
		if worker == n {
			for key := range m {
				_, _ = scan.Do(nil, entry, api.Op{Kind: api.Put, Key: key + 1, Val: key + 1})
			}
			return
		}
		rose[worker] = seesRising(entry, m, ranges)
	})
	return !slices.Contains(rose, false), whole(entry), api.OK
}

// seesRising: so many Ranges over all keys: does each of them follow on the one ahead of it?
func seesRising(entry *node.Node, m, ranges int) bool {
	rises, last := true, 0
	for range ranges {
		pairs := whole(entry)
		rises = rises && follows(pairs, last, m)
		last = len(pairs)
	}
	return rises
}

// follows: are the pairs 1:1 to k:k, with a k from the last one to m?
func follows(pairs []api.Pair, last, m int) bool {
	for i, p := range pairs {
		if p.Key != i+1 || p.Val != i+1 {
			return false
		}
	}
	return len(pairs) >= last && len(pairs) <= m
}

// Shape: n goroutines that put the keys and delete some of them: the tree's keys then; is its table as it has to be?
func Shape(n int, keys []int, drops []int) ([]int, bool, api.Errno) {
	if e := refusal(n, len(keys), len(drops)); e != api.OK {
		return nil, false, e
	}
	entry := node.Entry()
	together.Run(n, func(worker int) {
		doEach(entry, api.Op{Kind: api.Put, Val: worker}, keys)
		doEach(entry, api.Op{Kind: api.Delete}, drops)
	})
	t, _ := node.Read(nil, entry)
	left, is := shapeOf(t, n)
	return left, is, api.OK
}

// shapeOf: the keys of a table to which so many workers have put their numbers; and is it tidy, with none but such values?
func shapeOf(t []api.Node, workers int) ([]int, bool) {
	pairs, _ := table.Pairs(t)
	keys := make([]int, len(pairs))
	for i, p := range pairs {
		keys[i] = p.Key
	}
	isNoWorker := func(p api.Pair) bool { return p.Val < 0 || p.Val >= workers }
	return keys, isTidy(t) && !slices.ContainsFunc(pairs, isNoWorker)
}

// isTidy: is the table in form and numbered from the root on, has it a crown, is it ordered, sound, without a violation, and no deeper than it may be? (Layer 17 refuses one without a crown.)
func isTidy(t []api.Node) bool {
	norm, e := table.Norm(t)
	if e != api.OK || !slices.Equal(norm, t) {
		return false
	}
	ordered, _ := table.Ordered(t)
	sound, _ := weigh.Sound(t)
	fits, _ := weigh.Fits(t)
	faults, e := weigh.Violations(t)
	return e == api.OK && ordered && sound && fits && faults == 0
}
