package method

import (
	"math"
	"testing"

	"cassone/api"
	"cassone/model"
)

// P20.1: the numbers of the methods and levels.
func TestNumbers(t *testing.T) {
	if Stored != 0 || Lz != 1 || Ppm != 2 || Greedy != 0 || Lazy != 1 || Optimal != 2 {
		t.Error(Stored, Lz, Ppm, Greedy, Lazy, Optimal)
	}
}

// P20.1: Common.
func TestCommon(t *testing.T) {
	want := Options{
		Mask: 3, Level: 2, Window: 65536, Cut: 32, Order: 4, Cells: 65536,
		Params: model.Params{Lc: 3, Lp: 0, Pb: 2},
	}
	if Common() != want {
		t.Errorf("%+v, want %+v", Common(), want)
	}
	if !Common().Good() {
		t.Error("they may not be")
	}
}

// P20.1: Good, field by field, to the edges.
func TestGood(t *testing.T) {
	for _, f := range []struct {
		name        string
		field       func(o *Options) *int
		least, most int
	}{
		{"Mask", func(o *Options) *int { return &o.Mask }, 0, 3},
		{"Level", func(o *Options) *int { return &o.Level }, 0, 2},
		{"Window", func(o *Options) *int { return &o.Window }, 1, api.MaxDist},
		{"Cut", func(o *Options) *int { return &o.Cut }, 1, 1000},
		{"Order", func(o *Options) *int { return &o.Order }, 0, api.MaxOrder},
		{"Cells", func(o *Options) *int { return &o.Cells }, api.MinArena, api.MaxArena},
	} {
		for _, v := range []int{
			math.MinInt, -1 << 40, -2, -1, 0, 1, 2, 3, 4, 5, 15, 16, 17, 63, 64, 65, 255, 256, 999, 1000, 1001, 65536,
			1<<20 - 1, 1 << 20, 1<<20 + 1, 1 << 24, 1 << 32, 1<<32 + 1, 1<<32 + 64, math.MaxInt,
			f.least - 1, f.least, f.most, f.most + 1, (f.least + f.most) / 2,
		} {
			o := Common()
			*f.field(&o) = v
			if want := v >= f.least && v <= f.most; o.Good() != want {
				t.Errorf("%s %d: %v", f.name, v, o.Good())
			}
		}
	}
	if (Options{}).Good() {
		t.Error("zero options may be")
	}
}

// P20.1: Good, of Params.
func TestGoodParams(t *testing.T) {
	o := Common()
	for _, o.Params = range goodParams() {
		if !o.Good() {
			t.Error(o.Params)
		}
	}
	for _, o.Params = range []model.Params{
		{Lc: -1}, {Lp: -1}, {Pb: -1}, {Lc: 5}, {Lp: 5}, {Pb: 5}, {Lc: 3, Lp: 2}, {Lc: 4, Lp: 1}, {Lc: 1, Lp: 4},
		{Lc: 5, Lp: -1}, {Lc: math.MaxInt, Lp: math.MaxInt}, {Lc: math.MinInt}, {Pb: math.MaxInt},
	} {
		if o.Good() {
			t.Error(o.Params)
		}
	}
}
