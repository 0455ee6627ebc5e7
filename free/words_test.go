package free_test

import (
	"math"
	"runtime/metrics"
	"slices"
	"testing"

	"larch/api"
	"larch/model"
)

func get(key int) api.Op           { return api.Op{Kind: api.Get, Key: key} }
func put(key, val int) api.Op      { return api.Op{Kind: api.Put, Key: key, Val: val} }
func ifAbsent(key, val int) api.Op { return api.Op{Kind: api.PutIfAbsent, Key: key, Val: val} }
func del(key int) api.Op           { return api.Op{Kind: api.Delete, Key: key} }

func ops(list ...api.Op) []api.Op            { return list }
func workers(scripts ...[]api.Op) [][]api.Op { return scripts }
func ints(list ...int) []int                 { return list }

// upTo: 0 to n - 1.
func upTo(n int) []int {
	list := make([]int, n)
	for i := range list {
		list[i] = i
	}
	return list
}

func ones(n int) []int { return slices.Repeat([]int{1}, n) }

// row: 1:1 to n:n.
func row(n int) []api.Pair {
	var pairs []api.Pair
	for key := 1; key <= n; key++ {
		pairs = append(pairs, api.Pair{Key: key, Val: key})
	}
	return pairs
}

// firsts: 1 where the key stands for the first time, else 0.
func firsts(keys []int) []int {
	list := make([]int, len(keys))
	for place, key := range keys {
		if slices.Index(keys, key) == place {
			list[place] = 1
		}
	}
	return list
}

// without: the keys that aren't in drops, rising, each once.
func without(keys, drops []int) []int {
	var left []int
	for _, key := range keys {
		if !slices.Contains(drops, key) && !slices.Contains(left, key) {
			left = append(left, key)
		}
	}
	slices.Sort(left)
	return left
}

func sameRets(a, b []api.Ret) bool { return slices.EqualFunc(a, b, model.SameRet) }

// modelled: what Apart has to answer: each script alone, on an empty map.
func modelled(t *testing.T, scripts [][]api.Op) ([][]api.Ret, []api.Pair) {
	t.Helper()
	var answers [][]api.Ret
	var all []api.Pair
	for _, script := range scripts {
		pairs, rets, e := model.Run(nil, script)
		if e != api.OK {
			t.Fatalf("the model refuses %v: %d", script, e)
		}
		answers = append(answers, rets)
		all = append(all, pairs...)
	}
	return answers, model.Of(all)
}

// madeBy: how many goroutines begin while call runs.
func madeBy(call func()) int {
	samples := []metrics.Sample{{Name: "/sched/goroutines-created:goroutines"}}
	metrics.Read(samples)
	before := samples[0].Value.Uint64()
	call()
	metrics.Read(samples)
	return int(samples[0].Value.Uint64() - before)
}

const least, most = math.MinInt, math.MaxInt
