// Package code tells which programs are right, and writes and reads them as bytes.
package code

import "surety/api"

const ops = api.Same + 1

// What K an op has, as the number of its bytes.
const (
	noK     = 0
	placeK  = 1 // the number of an instruction
	numberK = 8 // any number
)

// shape is what an op has behind its own byte. The registers that an op needs are always the first of A, B and C, so that it is enough to count them.
type shape struct {
	registers int
	k         int
	bytes     int
}

var shapes = makeShapes()

func makeShapes() [ops]shape {
	return [ops]shape{
		api.Halt:  shapeOf(0, noK),
		api.Set:   shapeOf(1, numberK),
		api.Move:  shapeOf(2, noK),
		api.Add:   shapeOf(3, noK),
		api.Sub:   shapeOf(3, noK),
		api.Mul:   shapeOf(3, noK),
		api.Div:   shapeOf(3, noK),
		api.Load:  shapeOf(2, noK),
		api.Store: shapeOf(2, noK),
		api.Jump:  shapeOf(0, placeK),
		api.Less:  shapeOf(2, placeK),
		api.Same:  shapeOf(2, placeK),
	}
}

func shapeOf(registers, k int) shape {
	return shape{registers: registers, k: k, bytes: 1 + registers + k}
}

func registersOf(i api.Ins) [3]int {
	return [3]int{i.A, i.B, i.C}
}
