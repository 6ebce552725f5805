package tablet_test

import (
	"math/rand/v2"
	"testing"

	"stoa/api"
)

// TestAnyOrder does calls of all kinds in any order, and holds each answer against the plain list's.
func TestAnyOrder(t *testing.T) {
	for n := range uint64(300) {
		r := rand.New(rand.NewPCG(25, n))
		conf := confOf(small())
		if n%3 == 0 {
			conf = confOf(wide())
		}
		x := newWorld(t, conf)
		for range 200 {
			x.act(r)
		}
		x.check()
		if n%4 == 0 {
			x.crash(anyKeeps(r, x.disk)...)
			x.twice()
		}
	}
}

// TestAnyCrash does the same between losses of power.
func TestAnyCrash(t *testing.T) {
	for n := range uint64(150) {
		r := rand.New(rand.NewPCG(2525, n))
		x := newWorld(t, confOf(small()))
		for range 6 {
			for range 20 + r.IntN(60) {
				x.act(r)
			}
			x.check()
			x.crash(anyKeeps(r, x.disk)...)
		}
	}
}

// TestAnyFate does the same on a disk that refuses steps, and loses power at some.
func TestAnyFate(t *testing.T) {
	for n := range uint64(600) {
		r := rand.New(rand.NewPCG(252525, n))
		x := newWorld(t, confOf(small()))
		x.fails = true
		for range 8 {
			for range 20 + r.IntN(60) {
				if r.IntN(12) == 0 {
					x.disk.Plan(api.Fate{Step: x.disk.Steps() + 1 + r.IntN(20), Kind: 1 + r.IntN(4), N: r.IntN(40)})
				}
				x.act(r)
			}
			x.check()
			for x.disk.On(anyKeeps(r, x.disk)...); !x.reopen(); {
				x.disk.On(anyKeeps(r, x.disk)...)
			}
		}
	}
}
