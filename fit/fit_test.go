package fit

import (
	"math"
	"slices"
	"testing"

	"jacquard/api"
	"jacquard/prog"
	"jacquard/well"
)

// fences is a thread of n of them.
func fences(n int) []api.Ins {
	return slices.Repeat([]api.Ins{{Kind: api.IFence}}, n)
}

func hold(t *testing.T, p api.Prog, want bool) {
	t.Helper()
	if got := Prog(p); got != want {
		t.Errorf("%d locations, %v: %v, want %v", len(p.Locs), p.Threads, got, want)
	}
}

// The greatest that Compile makes, and each with one more.
func Test12_4Bounds(t *testing.T) {
	for _, x := range []struct {
		locs    int
		threads []int
		want    bool
	}{
		{0, nil, true},
		{0, []int{0}, true},
		{4, []int{0, 0, 0, 0}, true},
		{5, []int{0, 0, 0, 0}, false},
		{4, []int{0, 0, 0, 0, 0}, false},
		{100_000, nil, false},
		{0, []int{10}, true},
		{0, []int{11}, false},
		{0, []int{0, 0, 0, 10}, true},
		{0, []int{0, 0, 0, 11}, false},
		{4, []int{10, 10, 4}, true},
		{4, []int{10, 10, 5}, false},
		{4, []int{6, 6, 6, 6}, true},
		{4, []int{6, 6, 6, 7}, false},
		{4, []int{10, 10, 10, 10}, false},
	} {
		p := api.Prog{Locs: make([]byte, x.locs)}
		for _, n := range x.threads {
			p.Threads = append(p.Threads, fences(n))
		}
		hold(t, p, x.want)
	}
}

// Where a location is asked for, it is one.
func Test12_4Locations(t *testing.T) {
	odd := []int{math.MinInt, -1 << 32, -2, -1, 0, 1, 2, 3, 4, 5, 63, 64, 256, 1 << 32, 1<<32 + 1, math.MaxInt}
	for locs := range 5 {
		for _, loc := range odd {
			for kind := -1; kind < 9; kind++ {
				asks := kind == api.IStore || kind == api.ILoad || kind == api.ICas
				for place := range 3 {
					list := fences(3)
					list[place] = api.Ins{Kind: kind, Loc: loc}
					p := api.Prog{Locs: make([]byte, locs), Threads: [][]api.Ins{fences(2), list, fences(1)}}
					hold(t, p, !asks || loc >= 0 && loc < locs)
				}
			}
		}
	}
}

func Test12_4WhatCompileMakes(t *testing.T) {
	for _, body := range []string{
		"thread { }",
		"thread { fence ; } thread { r0 = 1 ; }",
		"init { w = 1 ; x = 2 ; y = 3 ; z = 4 ; } thread { store z 1 ; r0 = load w ; r1 = cas y 1 2 ; skip 1 if 0 == 0 ; fence ; }",
		"thread { } thread { } thread { } thread { r0 = load a ; } exists z = 1 ;",
	} {
		test, err := well.Read("test a { " + body + " }")
		p, code := prog.Compile(test)
		if err.Code != api.OK || code != api.OK {
			t.Fatal(body, err, code)
		}
		hold(t, p, true)
	}
}
