package soil

import (
	"draghead/api"
	"draghead/geometry"
)

// Nearest returns the number of the boring of a place (P6.2).
func Nearest(g api.Ground, p api.Point) (int, api.Errno) {
	if e := checkPlace(g, p); e != api.OK {
		return 0, e
	}
	return nearest(g, p), api.OK
}

// At returns the name of the soil at a place and level.
func At(g api.Ground, p api.Point, level int) (string, api.Errno) {
	if e := checkPlace(g, p, level); e != api.OK {
		return "", e
	}
	return soilAt(layersAt(g, p), level), api.OK
}

// Column returns the parts of the layers at a place from a level down to another one.
func Column(g api.Ground, p api.Point, from, to int) ([]api.Part, api.Errno) {
	if e := checkPlace(g, p, from, to); e != api.OK {
		return nil, e
	}
	if from < to {
		return nil, api.ErrOrder
	}
	return column(layersAt(g, p), from, to), api.OK
}

// checkPlace returns what is wrong with a ground, or with a place and levels that are looked for in it.
func checkPlace(g api.Ground, p api.Point, levels ...int) api.Errno {
	if e := CheckGround(g); e != api.OK {
		return e
	}
	if !isPlace(p) {
		return api.ErrRange
	}
	for _, level := range levels {
		if !isLevel(level) {
			return api.ErrRange
		}
	}
	return api.OK
}

func nearest(g api.Ground, p api.Point) int {
	out := 0
	for k := range g.Borings {
		if square(g, k, p) < square(g, out, p) {
			out = k
		}
	}
	return out
}

// square returns the squared distance of a boring and a place.
func square(g api.Ground, boring int, p api.Point) int {
	b := g.Borings[boring]
	return geometry.Square(api.Point{X: b.X, Y: b.Y}, p)
}

func layersAt(g api.Ground, p api.Point) []api.Layer {
	return g.Borings[nearest(g, p)].Layers
}

func soilAt(l []api.Layer, level int) string {
	// The first layer has no end upwards.
	out := l[0]
	for _, layer := range l {
		if layer.Top >= level {
			out = layer
		}
	}
	return out.Soil
}

// column returns no parts if from is not above to.
func column(l []api.Layer, from, to int) []api.Part {
	var out []api.Part
	for k, layer := range l {
		top, bottom := from, to
		if k > 0 {
			top = min(top, layer.Top)
		}
		if k+1 < len(l) {
			bottom = max(bottom, l[k+1].Top)
		}
		if top > bottom {
			out = append(out, api.Part{Soil: layer.Soil, Top: top, Bottom: bottom})
		}
	}
	return out
}
