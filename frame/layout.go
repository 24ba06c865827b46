package frame

import "overlay/api"

// The layouts of both frames stand here once, for writing and for reading, so that the two cannot differ.

func (f fields) inputs(x *api.Inputs) {
	f.expect(len(x.Cars) == len(f.building.Cars))
	f.calls(&x.Press)
	f.command(&x.Command)
	for i := range x.Cars {
		f.carInput(&x.Cars[i])
	}
}

func (f fields) command(x *api.Command) {
	f.number(&x.Kind, 1, api.OpNone, api.OpReset)
	last := len(f.building.Cars) - 1
	if x.Kind == api.OpNone {
		last = 0
	}
	f.number(&x.Car, 1, 0, last)
}

func (f fields) carInput(x *api.CarInput) {
	c, r := &x.Contacts, &x.Feedback
	f.floors(&c.Floors)
	f.flags(&c.Up, &c.Down, &c.Open, &c.Closed, &r.Level, &r.Block)
	f.number(&r.Floor, 1, 0, f.building.Floors-1)
	f.number(&r.Door, 1, api.DoorMoving, api.DoorClosed)
	f.floors(&x.Calls)
	f.load(&x.Load)
}

func (f fields) outputs(x *api.Outputs) {
	f.expect(len(x.Cars) == len(f.building.Cars))
	f.calls(&x.Lamps)
	f.calls(&x.Served)
	f.flags(&x.Bad, &x.Full)
	f.status(&x.Status)
	for i := range x.Cars {
		f.carOutput(&x.Cars[i])
	}
}

func (f fields) carOutput(x *api.CarOutput) {
	f.calls(&x.Coils.Inject)
	f.calls(&x.Lantern)
	f.flags(&x.Coils.CutOut, &x.Gong, &x.Flag)
	f.number(&x.Command, 1, api.CmdNone, api.CmdNudge)
	f.number(&x.Phase, 1, api.Legacy, api.New)
}
